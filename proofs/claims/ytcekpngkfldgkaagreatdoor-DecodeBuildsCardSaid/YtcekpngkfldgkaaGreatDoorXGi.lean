/- Contracts of this seat: RSums, RWMath, RFwd, RInvr, RIv. -/
import Derived.Test.YtcekpngkfldgkaaGreatDoorXTk
import Derived.Test.YtcekpngkfldgkaaGreatDoorXGf
import Derived.Deep.RegionWith
import Derived.Deep.RegionLaw
import Derived.Deep.AppendLies
import Derived.BigRegion
import Derived.Test.YtcekpngkfldgkaaGreatDoorXZb
namespace Go.Proofs.YtcekpngkfldgkaaGreatDoor
set_option linter.unusedVariables false
set_option linter.unusedSimpArgs false
open Go.RowKit Go.Extern.Stop Go.Stop Go.Extern
def sg (n i t : Nat) : Int := sgn (i % n) (t % n) * sgn (i / n) (t / n)
def psum (n : Nat) (f : Nat → Int) (i : Nat) : Nat → Int
 | 0 => 0
 | j + 1 => psum n f i j + f j * sg n i j
def rowS (n : Nat) (f : Nat → Int) (i j k : Nat) : Int := if k < i then psum n f k (n * n) else if k = i then psum n f i j else 0
theorem sgn_one (u x : Nat) : sgn u x = 1 ∨ sgn u x = -1 := by
 unfold sgn
 split <;> omega
theorem sg_one (n i t : Nat) : sg n i t = 1 ∨ sg n i t = -1 := by
 unfold sg
 rcases sgn_one (i % n) (t % n) with h | h <;> rcases sgn_one (i / n) (t / n) with h' | h' <;> rw [h, h'] <;> decide
theorem psum_bound {n : Nat} {f : Nat → Int} {i : Nat} (hf : ∀ t, -16777216 ≤ f t ∧ f t ≤ 16777216) (j : Nat) : -(16777216 * (j : Int)) ≤ psum n f i j ∧ psum n f i j ≤ 16777216 * (j : Int) := by
 induction j with
 | zero => simp [psum]
 | succ j ih =>
   have h := hf j
   unfold psum
   push_cast
   rcases sg_one n i j with e | e <;> rw [e] <;> omega
theorem rowS_next (n : Nat) (f : Nat → Int) (i k : Nat) : rowS n f i (n * n) k = rowS n f (i + 1) 0 k := by
 unfold rowS
 by_cases h1 : k < i
 · rw [if_pos h1, if_pos (by omega)]
 · rw [if_neg h1]
   by_cases h2 : k = i
   · subst h2
     rw [if_pos rfl, if_pos (by omega)]
   · rw [if_neg h2, if_neg (by omega)]
     by_cases h3 : k = i + 1
     · subst h3
       rw [if_pos rfl]
       rfl
     · rw [if_neg h3]
theorem rowS_step {n : Nat} {f : Nat → Int} {i j : Nat} (k : Nat) : rowS n f i (j + 1) k = if k = i then psum n f i j + f j * sg n i j else rowS n f i j k := by
 unfold rowS
 by_cases h2 : k = i
 · subst h2
   rw [if_neg (Nat.lt_irrefl _), if_pos rfl, if_pos rfl]
   rfl
 · rw [if_neg h2, if_neg h2, if_neg h2]
theorem rowS_self (n : Nat) (f : Nat → Int) (i j : Nat) : rowS n f i j i = psum n f i j := by unfold rowS; rw [if_neg (Nat.lt_irrefl _), if_pos rfl]
set_option maxHeartbeats 1500000 in
set_option maxRecDepth 100000 in
theorem rsums_any (zs : List Int) (n : Nat) (v : Value) (w : World) (ha : Ints w v zs) (hn : n = 4 ∧ zs.length = 16 ∨ n = 8 ∧ zs.length = 64) (hf : within (-16777216) 16777216 zs) :
 Calls Tryz.prog 142 #[v, .int .i64 n] w fun e w' => ∃ u, e = .returned u ∧ Ext w w' ∧ w'.ownsRow w.heap.size 3 1 u zs.length ((rowL zs.length fun i => psum n (fun t => zs.getD t 0) i (n * n)).map (Value.int .i64)) := by
 obtain ⟨i0, hi, hz0, hz1, hz2⟩ := info_parts infoInt
 have HB := Lib.hid (fun t => getD_bound hf (by decide) t)
 have HS := Lib.hid (fun (a b : Nat) (W : World) (h1 : a < 8) (h2 : b < 8) => rsign_in a b h1 h2 W)
 obtain ⟨f, hff⟩ : ∃ f : Nat → Int, f = fun t => zs.getD t 0 := ⟨_, rfl⟩
 have HP : Hid (∀ (i j : Nat), -(16777216 * (j : Int)) ≤ psum n f i j ∧ psum n f i j ≤ 16777216 * (j : Int)) := fun i j => psum_bound (fun t => by rw [hff]; exact HB.out t) j
 rw [← hff]
 have HF : Hid (∀ j x, zs[j]? = some x → f j = x) := fun j x h => by rw [hff]; simp [h]
 clear hff hf
 rcases hn with ⟨rfl, hN⟩ | ⟨rfl, hN⟩
 · obtain ⟨g, off, cap, rfl, c1, c2⟩ := ha.addr (by omega)
   rw [hN] at ha ⊢
   have HN := Lib.hid hN
   clear hN
   go_enter Tryz.func142, Tryz.ntmps142
   go_wp2_with (at_make; refine wpList_make_full _ rfl _ _ 22 rfl w.heap.size 3 i0 (.int .i64 0) 1 Tryz.underlying22 hi hz0 hz1 .i64 .i64 _ _ 16 rfl rfl rfl rfl (by rw [hz2]; omega) (by unfold maxLen; omega) (Nat.le_refl _) ?_; intro w2 hown hgrow)
   have hE : Ext w w2 := Below.grown (Ext.refl w) hgrow (Nat.le_refl _) (fun k hk => by cases hk)
   rw [zeros_row] at hown
   clear hgrow hi hz0 hz1 hz2
   go_wp2
   go_loopw [6] (fun vv wr => ∃ v : Nat, v ≤ 4 ∧ vv = .int .i64 v ∧ Hid (wr.ownsRow w.heap.size 3 1 (.slice (some ⟨w.heap.size, 0, none⟩) 16 16) 16 ((rowL 16 (rowS 4 f (v * 4) 0)).map (Value.int .i64))) ∧ Ext w wr) (fun vv _ => 4 - (intOf vv).toNat)
   case atStart => exact ⟨0, by decide, rfl, by
    show World.ownsRow _ _ _ _ _ _ _
    rw [rowL_congr (g := fun _ => 0) (fun j _ => by unfold rowS; rw [if_neg (by omega)]; split <;> rfl)]
    exact hown, hE⟩
   case round =>
    clear hown hE
    obtain ⟨v, hv, rfl, HO, hE⟩ := hrel
    by_cases hv4 : v < 4
    · have tv : decide ((v : Int) < 4) = true := decide_eq_true (by omega)
      go_wp2
      go_loopw [7] (fun uv wr => ∃ u : Nat, u ≤ 4 ∧ uv = .int .i64 u ∧ Hid (wr.ownsRow w.heap.size 3 1 (.slice (some ⟨w.heap.size, 0, none⟩) 16 16) 16 ((rowL 16 (rowS 4 f (v * 4 + u) 0)).map (Value.int .i64))) ∧ Ext w wr) (fun uv _ => 4 - (intOf uv).toNat)
      case atStart => exact ⟨0, by decide, rfl, HO.out, hE⟩
      case round =>
       clear HO hE
       obtain ⟨u, hu, rfl, HO, hE⟩ := hrel
       by_cases hu4 : u < 4
       · have tu : decide ((u : Int) < 4) = true := decide_eq_true (by omega)
         go_wp2
         go_loopw [8] (fun yv wr => ∃ y : Nat, y ≤ 4 ∧ yv = .int .i64 y ∧ Hid (wr.ownsRow w.heap.size 3 1 (.slice (some ⟨w.heap.size, 0, none⟩) 16 16) 16 ((rowL 16 (rowS 4 f (v * 4 + u) (y * 4))).map (Value.int .i64))) ∧ Ext w wr) (fun yv _ => 4 - (intOf yv).toNat)
         case atStart => exact ⟨0, by decide, rfl, HO.out, hE⟩
         case round =>
          clear HO hE
          obtain ⟨y, hy, rfl, HO, hE⟩ := hrel
          by_cases hy4 : y < 4
          · have ty : decide ((y : Int) < 4) = true := decide_eq_true (by omega)
            go_wp2
            go_loopw [9] (fun xv wr => ∃ x : Nat, x ≤ 4 ∧ xv = .int .i64 x ∧ Hid (wr.ownsRow w.heap.size 3 1 (.slice (some ⟨w.heap.size, 0, none⟩) 16 16) 16 ((rowL 16 (rowS 4 f (v * 4 + u) (y * 4 + x))).map (Value.int .i64))) ∧ Ext w wr) (fun xv _ => 4 - (intOf xv).toNat)
            case atStart => exact ⟨0, by decide, rfl, HO.out, hE⟩
            case round =>
             clear HO hE
             obtain ⟨x, hx, rfl, HO, hE⟩ := hrel
             by_cases hx4 : x < 4
             · have tx : decide ((x : Int) < 4) = true := decide_eq_true (by omega)
               obtain ⟨i, hi⟩ : ∃ i, i = v * 4 + u := ⟨_, rfl⟩
               obtain ⟨j, hj⟩ : ∃ j, j = y * 4 + x := ⟨_, rfl⟩
               have hi16 : i < 16 := by omega
               have hj16 : j < 16 := by omega
               have HO1 : Hid (wr.ownsRow w.heap.size 3 1 (.slice (some ⟨w.heap.size, 0, none⟩) 16 16) 16 ((rowL 16 (rowS 4 f i j)).map (Value.int .i64))) := by rw [hi, hj]; exact HO.out
               obtain ⟨cA, fz⟩ := own_cell HO1.out hi16
               rw [rowS_self] at cA
               have pA := HP.out i j
               have pB := HP.out i (j + 1)
               have hzj : zs[j]? = some (f j) := by
                have e : zs[j]? = some (zs[j]'(by rw [HN.out]; exact hj16)) := by simp
                rw [HF.out j _ e]; exact e
               have cB := hE.cell (ha.at hzj)
               have bB := HB.out j
               obtain ⟨A, hA⟩ : ∃ A, psum 4 f i j = A := ⟨_, rfl⟩
               obtain ⟨b, hb⟩ : ∃ b, f j = b := ⟨_, rfl⟩
               have bb : -16777216 ≤ b ∧ b ≤ 16777216 := by rw [← hb]; rw [show f j = zs.getD j 0 by simp [List.getD, hzj]]; exact bB
               obtain ⟨s1, hs1⟩ : ∃ s1, sgn u x = s1 := ⟨_, rfl⟩
               obtain ⟨s2, hs2⟩ : ∃ s2, sgn v y = s2 := ⟨_, rfl⟩
               have hsg : sg 4 i j = s1 * s2 := by
                unfold sg
                rw [show i % 4 = u by omega, show j % 4 = x by omega, show i / 4 = v by omega, show j / 4 = y by omega, hs1, hs2]
               have hm1 : -16777216 ≤ b * s1 ∧ b * s1 ≤ 16777216 := by rcases sgn_one u x with e | e <;> rw [hs1] at e <;> rw [e] <;> omega
               have hm2 : -16777216 ≤ b * s1 * s2 ∧ b * s1 * s2 ≤ 16777216 := by rcases sgn_one v y with e | e <;> rw [hs2] at e <;> rw [e] <;> omega
               rw [hA] at cA pA
               rw [hb] at cB
               have HNEW : Hid (psum 4 f i j + f j * sg 4 i j = A + b * s1 * s2) := by show _ = _; rw [hA, hb, hsg, Int.mul_assoc]
               have e1 : IntKind.i64.wrap ((v : Int) * 4) = (v : Int) * 4 := by rw [IntKind.wrap_i64]; omega
               have e2 : IntKind.i64.wrap ((v : Int) * 4 + u) = (v : Int) * 4 + u := by rw [IntKind.wrap_i64]; omega
               have e3 : IntKind.i64.wrap ((y : Int) * 4) = (y : Int) * 4 := by rw [IntKind.wrap_i64]; omega
               have e4 : IntKind.i64.wrap ((y : Int) * 4 + x) = (y : Int) * 4 + x := by rw [IntKind.wrap_i64]; omega
               have e5 : IntKind.i64.wrap (b * s1) = b * s1 := by rw [IntKind.wrap_i64]; omega
               have e6 : IntKind.i64.wrap (b * s1 * s2) = b * s1 * s2 := by rw [IntKind.wrap_i64]; omega
               have e7 : IntKind.i64.wrap (A + b * s1 * s2) = A + b * s1 * s2 := by rw [IntKind.wrap_i64]; omega
               have x1 : ((v : Int) * 4 + u).toNat = i := by omega
               have x2 : ((y : Int) * 4 + x).toNat = j := by omega
               have x3 : 0 ≤ (v : Int) * 4 + u := by omega
               have x4 : 0 ≤ (y : Int) * 4 + x := by omega
               have x5 : (v : Int) * 4 + u < 16 := by omega
               have x6 : (y : Int) * 4 + x < 16 := by omega
               have HIJ : Hid (i = v * 4 + u ∧ j = y * 4 + x) := ⟨hi, hj⟩
               clear hi hj HO hzj bB hA hb hsg pB
               go_wp2
               go_region_law (first | (go_simp; go_at_call 164; refine (HS.out _ _ _ (by omega) (by omega)).mono ?_; rintro e w' ⟨rfl, rfl⟩; (first | rw [hs1] | rw [hs2])))
               all_goals
                go_wp2
                go_roundw
                case measure => simp [intOf]; omega
                case rel =>
                 refine ⟨x + 1, by omega, by go_num, ?_, (Below.setCell hE (Nat.le_refl _) _).drew⟩
                 show World.ownsRow _ _ _ _ _ _ _
                 have h := own_ext (own_set (x := A + b * s1 * s2) HO1.out hi16) ((Ext.refl _).drew)
                 rw [rowL_congr (g := rowS 4 f i (j + 1)) (fun k _ => by rw [rowS_step, HNEW.out])] at h
                 rw [show y * 4 + (x + 1) = j + 1 by rw [HIJ.out.2]; omega, ← HIJ.out.1]
                 exact h
             · go_wp2
               go_roundw
               case rel =>
                have hx4' : x = 4 := by omega
                subst hx4'
                exact ⟨y + 1, by omega, by go_num, by show World.ownsRow _ _ _ _ _ _ _; rw [show (y + 1) * 4 = y * 4 + 4 by omega]; exact HO.out, hE⟩
               case measure => simp [intOf]; omega
          · go_wp2
            go_roundw
            case rel =>
             have hy4' : y = 4 := by omega
             subst hy4'
             exact ⟨u + 1, by omega, by go_num, by
              show World.ownsRow _ _ _ _ _ _ _
              rw [← rowL_congr (f := rowS 4 f (v * 4 + u) (4 * 4)) (g := rowS 4 f (v * 4 + (u + 1)) 0) (fun k _ => rowS_next 4 f (v * 4 + u) k)]
              exact HO.out, hE⟩
            case measure => simp [intOf]; omega
       · go_wp2
         go_roundw
         case rel =>
          have hu4' : u = 4 := by omega
          subst hu4'
          exact ⟨v + 1, by omega, by go_num, by show World.ownsRow _ _ _ _ _ _ _; rw [show (v + 1) * 4 = v * 4 + 4 by omega]; exact HO.out, hE⟩
         case measure => simp [intOf]; omega
    · have hv4' : v = 4 := by omega
      subst hv4'
      have ho := HO.out
      rw [rowL_congr (g := fun i => psum 4 f i (4 * 4)) (fun j hj => by unfold rowS; rw [if_pos (by omega)])] at ho
      go_wp2
      go_ret
      exact ⟨_, rfl, hE, ho⟩
 · obtain ⟨g, off, cap, rfl, c1, c2⟩ := ha.addr (by omega)
   rw [hN] at ha ⊢
   have HN := Lib.hid hN
   clear hN
   go_enter Tryz.func142, Tryz.ntmps142
   go_wp2_with (at_make; refine wpList_make_full _ rfl _ _ 22 rfl w.heap.size 3 i0 (.int .i64 0) 1 Tryz.underlying22 hi hz0 hz1 .i64 .i64 _ _ 64 rfl rfl rfl rfl (by rw [hz2]; omega) (by unfold maxLen; omega) (Nat.le_refl _) ?_; intro w2 hown hgrow)
   have hE : Ext w w2 := Below.grown (Ext.refl w) hgrow (Nat.le_refl _) (fun k hk => by cases hk)
   rw [zeros_row] at hown
   clear hgrow hi hz0 hz1 hz2
   go_wp2
   go_loopw [6] (fun vv wr => ∃ v : Nat, v ≤ 8 ∧ vv = .int .i64 v ∧ Hid (wr.ownsRow w.heap.size 3 1 (.slice (some ⟨w.heap.size, 0, none⟩) 64 64) 64 ((rowL 64 (rowS 8 f (v * 8) 0)).map (Value.int .i64))) ∧ Ext w wr) (fun vv _ => 8 - (intOf vv).toNat)
   case atStart => exact ⟨0, by decide, rfl, by
    show World.ownsRow _ _ _ _ _ _ _
    rw [rowL_congr (g := fun _ => 0) (fun j _ => by unfold rowS; rw [if_neg (by omega)]; split <;> rfl)]
    exact hown, hE⟩
   case round =>
    clear hown hE
    obtain ⟨v, hv, rfl, HO, hE⟩ := hrel
    by_cases hv4 : v < 8
    · have tv : decide ((v : Int) < 8) = true := decide_eq_true (by omega)
      go_wp2
      go_loopw [7] (fun uv wr => ∃ u : Nat, u ≤ 8 ∧ uv = .int .i64 u ∧ Hid (wr.ownsRow w.heap.size 3 1 (.slice (some ⟨w.heap.size, 0, none⟩) 64 64) 64 ((rowL 64 (rowS 8 f (v * 8 + u) 0)).map (Value.int .i64))) ∧ Ext w wr) (fun uv _ => 8 - (intOf uv).toNat)
      case atStart => exact ⟨0, by decide, rfl, HO.out, hE⟩
      case round =>
       clear HO hE
       obtain ⟨u, hu, rfl, HO, hE⟩ := hrel
       by_cases hu4 : u < 8
       · have tu : decide ((u : Int) < 8) = true := decide_eq_true (by omega)
         go_wp2
         go_loopw [8] (fun yv wr => ∃ y : Nat, y ≤ 8 ∧ yv = .int .i64 y ∧ Hid (wr.ownsRow w.heap.size 3 1 (.slice (some ⟨w.heap.size, 0, none⟩) 64 64) 64 ((rowL 64 (rowS 8 f (v * 8 + u) (y * 8))).map (Value.int .i64))) ∧ Ext w wr) (fun yv _ => 8 - (intOf yv).toNat)
         case atStart => exact ⟨0, by decide, rfl, HO.out, hE⟩
         case round =>
          clear HO hE
          obtain ⟨y, hy, rfl, HO, hE⟩ := hrel
          by_cases hy4 : y < 8
          · have ty : decide ((y : Int) < 8) = true := decide_eq_true (by omega)
            go_wp2
            go_loopw [9] (fun xv wr => ∃ x : Nat, x ≤ 8 ∧ xv = .int .i64 x ∧ Hid (wr.ownsRow w.heap.size 3 1 (.slice (some ⟨w.heap.size, 0, none⟩) 64 64) 64 ((rowL 64 (rowS 8 f (v * 8 + u) (y * 8 + x))).map (Value.int .i64))) ∧ Ext w wr) (fun xv _ => 8 - (intOf xv).toNat)
            case atStart => exact ⟨0, by decide, rfl, HO.out, hE⟩
            case round =>
             clear HO hE
             obtain ⟨x, hx, rfl, HO, hE⟩ := hrel
             by_cases hx4 : x < 8
             · have tx : decide ((x : Int) < 8) = true := decide_eq_true (by omega)
               obtain ⟨i, hi⟩ : ∃ i, i = v * 8 + u := ⟨_, rfl⟩
               obtain ⟨j, hj⟩ : ∃ j, j = y * 8 + x := ⟨_, rfl⟩
               have hi16 : i < 64 := by omega
               have hj16 : j < 64 := by omega
               have HO1 : Hid (wr.ownsRow w.heap.size 3 1 (.slice (some ⟨w.heap.size, 0, none⟩) 64 64) 64 ((rowL 64 (rowS 8 f i j)).map (Value.int .i64))) := by rw [hi, hj]; exact HO.out
               obtain ⟨cA, fz⟩ := own_cell HO1.out hi16
               rw [rowS_self] at cA
               have pA := HP.out i j
               have pB := HP.out i (j + 1)
               have hzj : zs[j]? = some (f j) := by
                have e : zs[j]? = some (zs[j]'(by rw [HN.out]; exact hj16)) := by simp
                rw [HF.out j _ e]; exact e
               have cB := hE.cell (ha.at hzj)
               have bB := HB.out j
               obtain ⟨A, hA⟩ : ∃ A, psum 8 f i j = A := ⟨_, rfl⟩
               obtain ⟨b, hb⟩ : ∃ b, f j = b := ⟨_, rfl⟩
               have bb : -16777216 ≤ b ∧ b ≤ 16777216 := by rw [← hb]; rw [show f j = zs.getD j 0 by simp [List.getD, hzj]]; exact bB
               obtain ⟨s1, hs1⟩ : ∃ s1, sgn u x = s1 := ⟨_, rfl⟩
               obtain ⟨s2, hs2⟩ : ∃ s2, sgn v y = s2 := ⟨_, rfl⟩
               have hsg : sg 8 i j = s1 * s2 := by
                unfold sg
                rw [show i % 8 = u by omega, show j % 8 = x by omega, show i / 8 = v by omega, show j / 8 = y by omega, hs1, hs2]
               have hm1 : -16777216 ≤ b * s1 ∧ b * s1 ≤ 16777216 := by rcases sgn_one u x with e | e <;> rw [hs1] at e <;> rw [e] <;> omega
               have hm2 : -16777216 ≤ b * s1 * s2 ∧ b * s1 * s2 ≤ 16777216 := by rcases sgn_one v y with e | e <;> rw [hs2] at e <;> rw [e] <;> omega
               rw [hA] at cA pA
               rw [hb] at cB
               have HNEW : Hid (psum 8 f i j + f j * sg 8 i j = A + b * s1 * s2) := by show _ = _; rw [hA, hb, hsg, Int.mul_assoc]
               have e1 : IntKind.i64.wrap ((v : Int) * 8) = (v : Int) * 8 := by rw [IntKind.wrap_i64]; omega
               have e2 : IntKind.i64.wrap ((v : Int) * 8 + u) = (v : Int) * 8 + u := by rw [IntKind.wrap_i64]; omega
               have e3 : IntKind.i64.wrap ((y : Int) * 8) = (y : Int) * 8 := by rw [IntKind.wrap_i64]; omega
               have e4 : IntKind.i64.wrap ((y : Int) * 8 + x) = (y : Int) * 8 + x := by rw [IntKind.wrap_i64]; omega
               have e5 : IntKind.i64.wrap (b * s1) = b * s1 := by rw [IntKind.wrap_i64]; omega
               have e6 : IntKind.i64.wrap (b * s1 * s2) = b * s1 * s2 := by rw [IntKind.wrap_i64]; omega
               have e7 : IntKind.i64.wrap (A + b * s1 * s2) = A + b * s1 * s2 := by rw [IntKind.wrap_i64]; omega
               have x1 : ((v : Int) * 8 + u).toNat = i := by omega
               have x2 : ((y : Int) * 8 + x).toNat = j := by omega
               have x3 : 0 ≤ (v : Int) * 8 + u := by omega
               have x4 : 0 ≤ (y : Int) * 8 + x := by omega
               have x5 : (v : Int) * 8 + u < 64 := by omega
               have x6 : (y : Int) * 8 + x < 64 := by omega
               have HIJ : Hid (i = v * 8 + u ∧ j = y * 8 + x) := ⟨hi, hj⟩
               clear hi hj HO hzj bB hA hb hsg pB
               go_wp2
               go_region_law (first | (go_simp; go_at_call 164; refine (HS.out _ _ _ (by omega) (by omega)).mono ?_; rintro e w' ⟨rfl, rfl⟩; (first | rw [hs1] | rw [hs2])))
               all_goals
                go_wp2
                go_roundw
                case measure => simp [intOf]; omega
                case rel =>
                 refine ⟨x + 1, by omega, by go_num, ?_, (Below.setCell hE (Nat.le_refl _) _).drew⟩
                 show World.ownsRow _ _ _ _ _ _ _
                 have h := own_ext (own_set (x := A + b * s1 * s2) HO1.out hi16) ((Ext.refl _).drew)
                 rw [rowL_congr (g := rowS 8 f i (j + 1)) (fun k _ => by rw [rowS_step, HNEW.out])] at h
                 rw [show y * 8 + (x + 1) = j + 1 by rw [HIJ.out.2]; omega, ← HIJ.out.1]
                 exact h
             · go_wp2
               go_roundw
               case rel =>
                have hx4' : x = 8 := by omega
                subst hx4'
                exact ⟨y + 1, by omega, by go_num, by show World.ownsRow _ _ _ _ _ _ _; rw [show (y + 1) * 8 = y * 8 + 8 by omega]; exact HO.out, hE⟩
               case measure => simp [intOf]; omega
          · go_wp2
            go_roundw
            case rel =>
             have hy4' : y = 8 := by omega
             subst hy4'
             exact ⟨u + 1, by omega, by go_num, by
              show World.ownsRow _ _ _ _ _ _ _
              rw [← rowL_congr (f := rowS 8 f (v * 8 + u) (8 * 8)) (g := rowS 8 f (v * 8 + (u + 1)) 0) (fun k _ => rowS_next 8 f (v * 8 + u) k)]
              exact HO.out, hE⟩
            case measure => simp [intOf]; omega
       · go_wp2
         go_roundw
         case rel =>
          have hu4' : u = 8 := by omega
          subst hu4'
          exact ⟨v + 1, by omega, by go_num, by show World.ownsRow _ _ _ _ _ _ _; rw [show (v + 1) * 8 = v * 8 + 8 by omega]; exact HO.out, hE⟩
         case measure => simp [intOf]; omega
    · have hv4' : v = 8 := by omega
      subst hv4'
      have ho := HO.out
      rw [rowL_congr (g := fun i => psum 8 f i (8 * 8)) (fun j hj => by unfold rowS; rw [if_pos (by omega)])] at ho
      go_wp2
      go_ret
      exact ⟨_, rfl, hE, ho⟩
def bsg (m i t : Nat) : Int := match m with
 | 0 => 1
 | m + 1 => if Nat.testBit i m ∧ Nat.testBit t m then -bsg m i t else bsg m i t
def tsum (s : Nat → Int) (f : Nat → Int) : Nat → Int
 | 0 => 0
 | j + 1 => tsum s f j + f j * s j
theorem tsum_congr {s s' f f' : Nat → Int} {n : Nat} (h : ∀ j, j < n → f j * s j = f' j * s' j) : tsum s f n = tsum s' f' n := by
 induction n with
 | zero => rfl
 | succ n ih => rw [tsum, tsum, ih (fun j hj => h j (by omega)), h n (by omega)]
theorem tsum_split (s f : Nat → Int) (a b : Nat) : tsum s f (a + b) = tsum s f a + tsum (fun j => s (a + j)) (fun j => f (a + j)) b := by
 induction b with
 | zero => simp [tsum]
 | succ b ih => rw [← Nat.add_assoc, tsum, ih, tsum]; omega
theorem bsg_high {m i t k : Nat} (h : m ≤ k) : bsg m (flip k i) t = bsg m i t ∧ bsg m i (flip k t) = bsg m i t := by
 induction m with
 | zero => exact ⟨rfl, rfl⟩
 | succ m ih =>
   obtain ⟨h1, h2⟩ := ih (by omega)
   unfold bsg
   rw [flip_other (by omega), flip_other (by omega), h1, h2]
   exact ⟨rfl, rfl⟩
theorem wht_shiftL {m k : Nat} (h : m ≤ k) (f : Nat → Int) (i : Nat) : wht m f (flip k i) = wht m (fun j => f (flip k j)) i := by
 induction m generalizing i with
 | zero => rfl
 | succ m ih =>
   rw [wht, wht, wpass, wpass, flip_other (by omega), flip_comm, ih (by omega), ih (by omega)]
theorem flip_addL : ∀ m < 6, ∀ j < 2 ^ m, flip m j = 2 ^ m + j := by decide +kernel
theorem bitLowR {m j : Nat} (h : j < 2 ^ m) : j.testBit m = false := Nat.testBit_lt_two_pow h
theorem tsum_neg (s f : Nat → Int) (n : Nat) : tsum (fun j => -s j) f n = -tsum s f n := by
 induction n with
 | zero => rfl
 | succ n ih => rw [tsum, tsum, ih, Int.mul_neg]; omega
theorem wht_tsum {m : Nat} (hm : m ≤ 6) (f : Nat → Int) (i : Nat) (hi : i < 2 ^ m) : wht m f i = tsum (bsg m i) f (2 ^ m) := by
 induction m generalizing f i with
 | zero =>
   have : i = 0 := by simpa using hi
   subst this
   simp [wht, tsum, bsg]
 | succ m ih =>
   have hp : 2 ^ (m + 1) = 2 ^ m + 2 ^ m := by rw [Nat.pow_succ]; omega
   rw [hp, tsum_split, wht, wpass]
   have hf : tsum (bsg (m + 1) i) f (2 ^ m) = tsum (bsg m i) f (2 ^ m) := by
    apply tsum_congr
    intro j hj
    have := bitLowR hj
    simp [bsg, this]
   cases hb : i.testBit m with
   | false =>
     have hi' : i < 2 ^ m := by
      by_cases c : i < 2 ^ m
      · exact c
      · exfalso
        have := Nat.testBit_of_two_pow_le_and_two_pow_add_one_gt (i := m) (n := i) (by omega) (by omega)
        rw [hb] at this; cases this
     have hg : tsum (fun j => bsg (m + 1) i (2 ^ m + j)) (fun j => f (2 ^ m + j)) (2 ^ m) = tsum (bsg m i) (fun j => f (flip m j)) (2 ^ m) := by
      apply tsum_congr
      intro j hj
      rw [← flip_addL m (by omega) j hj]
      have := (bsg_high (m := m) (i := i) (t := j) (Nat.le_refl m)).2
      simp only [bsg, hb, Bool.false_eq_true, false_and, if_false, this]
     rw [hf, hg, wht_shiftL (Nat.le_refl m), ih (by omega) f i hi', ih (by omega) _ i hi']
     rfl
   | true =>
     obtain ⟨i', he⟩ : ∃ i', i' = flip m i := ⟨_, rfl⟩
     have hie : flip m i' = i := by rw [he, flip_flip]
     have hb' : i'.testBit m = false := by rw [he, flip_bit, hb]; rfl
     have hi'' : i' < 2 ^ (m + 1) := by rw [he]; exact flip_lt hi (by omega)
     have hi' : i' < 2 ^ m := by
      by_cases c : i' < 2 ^ m
      · exact c
      · exfalso
        have := Nat.testBit_of_two_pow_le_and_two_pow_add_one_gt (i := m) (n := i') (by omega) (by omega)
        rw [hb'] at this; cases this
     have hs : ∀ t, bsg m i t = bsg m i' t := fun t => by rw [← hie]; exact (bsg_high (Nat.le_refl m)).1
     have hg : tsum (fun j => bsg (m + 1) i (2 ^ m + j)) (fun j => f (2 ^ m + j)) (2 ^ m) = tsum (fun j => -bsg m i' j) (fun j => f (flip m j)) (2 ^ m) := by
      apply tsum_congr
      intro j hj
      rw [← flip_addL m (by omega) j hj]
      have e1 := (bsg_high (m := m) (i := i) (t := j) (Nat.le_refl m)).2
      have e2 : (flip m j).testBit m = true := by rw [flip_bit, bitLowR hj]; rfl
      simp only [bsg, hb, e2, and_self, if_true, e1, hs]
     have hf' : tsum (bsg m i) f (2 ^ m) = tsum (bsg m i') f (2 ^ m) := tsum_congr fun j _ => by rw [hs]
     rw [hf, hg, hf', tsum_neg, ← he]
     have e1 := ih (by omega) f i' hi'
     have e2 : wht m f i = tsum (bsg m i') (fun j => f (flip m j)) (2 ^ m) := by rw [← hie, wht_shiftL (Nat.le_refl m)]; exact ih (by omega) _ i' hi'
     simp only [if_true]
     omega
theorem bsg_tab4 : ∀ i < 16, ∀ t < 16, bsg 4 i t = sgn (i % 4) (t % 4) * sgn (i / 4) (t / 4) := by decide +kernel
theorem bsg_tab8 : ∀ i < 64, ∀ t < 64, bsg 6 i t = sgn (i % 8) (t % 8) * sgn (i / 8) (t / 8) := by decide +kernel
def RBPost (w : World) (ans : Option Int) (out : List Int) (e : Ending) (w' : World) : Prop :=
 ∃ u k, e = .returned (.tuple #[u, .agg #[.int .i64 k, .slice none 0 0]]) ∧ Ext w w' ∧ match ans with
   | none => Ints w' u out ∧ k = 0
   | some k' => u = .slice none 0 0 ∧ k = k'
def sideN (k : Nat) : Nat := if k = 16 then 4 else if k = 64 then 8 else 0
theorem rwside_any (k : Nat) (w : World) : Calls Tryz.prog 141 #[.int .i64 k] w fun e w' => e = .returned (.int .i64 (sideN k)) ∧ w' = w := by
 by_cases h1 : k = 16
 · subst h1
   go_enter Tryz.func141, Tryz.ntmps141
   go_wp2
   go_ret
   exact ⟨rfl, rfl⟩
 · by_cases h2 : k = 64
   · subst h2
     go_enter Tryz.func141, Tryz.ntmps141
     go_wp2
     go_ret
     exact ⟨rfl, rfl⟩
   · have b1 : ((k : Int) == 16) = false := by simp; omega
     have b2 : ((k : Int) == 64) = false := by simp; omega
     have HS : Hid (sideN k = 0) := by show _ = _; unfold sideN; rw [if_neg h1, if_neg h2]
     have b3 : ((16 : Int) == k) = false := by simp; omega
     have b4 : ((64 : Int) == k) = false := by simp; omega
     go_enter Tryz.func141, Tryz.ntmps141
     go_wp2
     go_ret
     exact ⟨by rw [HS.out]; rfl, rfl⟩
set_option maxRecDepth 20000 in
set_option maxHeartbeats 1000000 in
theorem rinverse_fit (n : Nat) (v : Value) (w : World) (hv : ∃ a cap, v = .slice a n cap) (h1 : n ≠ 16) (h2 : n ≠ 64) (out : List Int) :
 Calls Tryz.prog 102 #[v] w (RBPost w (some 14) out) := by
 have HS : Hid (sideN n = 0) := by show _ = _; unfold sideN; rw [if_neg h1, if_neg h2]
 have R1 := ResAt.new w
 have E1 : Ext w (w.alloc (.cells #[.int .i64 0, .slice none 0 0] 43)) := (Ext.refl w).alloc _
 obtain ⟨a, cap, rfl⟩ := hv
 clear h1 h2
 go_enter Tryz.func102, Tryz.ntmps102
 go_wp2_with fail
 refine (rwside_any n _).mono ?_; rintro e w1 ⟨rfl, rfl⟩
 rw [HS.out]
 go_wp2_with fail
 refine (fail_any 14 _).mono ?_; rintro e w9 ⟨rfl, hx9⟩
 have EE : Ext w w9 := E1.trans hx9
 obtain ⟨r0, r1, f0, f1⟩ := R1.ext hx9
 clear R1 E1 hx9
 go_wp2
 obtain ⟨e0, e1⟩ := res_cells (c := 14) r0 r1 (.slice none 0 0)
 exact bodyPost_ret (v := .tuple #[.slice none 0 0, .agg #[.int .i64 14, .slice none 0 0]]) (by simp [results, Tryz.results102, go_sem, e0, e1]) rfl ⟨_, _, rfl, (EE.setCell (by simp) _).setCell (by simp) _, rfl, rfl⟩
set_option maxRecDepth 20000 in
set_option maxHeartbeats 1000000 in
theorem rinverse_range (zs : List Int) (N n : Nat) (v : Value) (w : World) (ha : Ints w v zs) (hN : N = zs.length) (hn : n = 4 ∧ N = 16 ∨ n = 8 ∧ N = 64) (hw : ¬ within (-16777216) 16777216 zs) (out : List Int) :
 Calls Tryz.prog 102 #[v] w (RBPost w (some 3) out) := by
 have HS : Hid (sideN N = n) := by show _ = _; rcases hn with ⟨rfl, rfl⟩ | ⟨rfl, rfl⟩ <;> rfl
 have b0 : 1 ≤ n ∧ n ≤ 8 := by omega
 have HW := Lib.hid hw
 have R1 := ResAt.new w
 have E1 : Ext w (w.alloc (.cells #[.int .i64 0, .slice none 0 0] 43)) := (Ext.refl w).alloc _
 obtain ⟨a, cap, rfl⟩ := ha.form
 rw [← hN] at ha ⊢
 clear hw hn hN
 go_enter Tryz.func102, Tryz.ntmps102
 go_wp2_with fail
 refine (rwside_any N _).mono ?_; rintro e w1 ⟨rfl, rfl⟩
 rw [HS.out]
 go_wp2_with fail
 refine (within_any zs _ _ _ _ (ha.ext E1)).mono ?_; rintro e w2 ⟨rfl, hx2⟩
 rw [decide_eq_false HW.out]
 have E2 := E1.trans hx2
 have R2 := R1.ext hx2
 clear R1 E1 hx2
 go_wp2_with fail
 refine (fail_any 3 _).mono ?_; rintro e w9 ⟨rfl, hx9⟩
 have EE : Ext w w9 := E2.trans hx9
 obtain ⟨r0, r1, f0, f1⟩ := R2.ext hx9
 clear R2 E2 hx9
 go_wp2
 obtain ⟨e0, e1⟩ := res_cells (c := 3) r0 r1 (.slice none 0 0)
 exact bodyPost_ret (v := .tuple #[.slice none 0 0, .agg #[.int .i64 3, .slice none 0 0]]) (by simp [results, Tryz.results102, go_sem, e0, e1]) rfl ⟨_, _, rfl, (EE.setCell (by simp) _).setCell (by simp) _, rfl, rfl⟩
theorem tdiv_low (a b : Int) (hb : b = 16 ∨ b = 64) : ∃ q, a.tdiv b = q ∧ (q = a / b ∧ ¬ a < q * b ∨ q - 1 = a / b ∧ a < q * b) := by
 by_cases h : 0 ≤ a
 · refine ⟨_, Int.tdiv_eq_ediv_of_nonneg h, Or.inl ⟨rfl, ?_⟩⟩
   rcases hb with rfl | rfl <;> omega
 · obtain ⟨c, hc⟩ : ∃ c, c = -a := ⟨_, rfl⟩
   have e : a.tdiv b = -(c / b) := by
    rw [show a = -c by omega, Int.neg_tdiv, Int.tdiv_eq_ediv_of_nonneg (by omega)]
   refine ⟨_, e, ?_⟩
   rcases hb with rfl | rfl <;> omega
set_option maxRecDepth 20000 in
theorem rdown8_any (a b : Int) (w : World) (hb : b = 16 ∨ b = 64) (ha : -2147483648 ≤ a ∧ a ≤ 2147483648) : Calls Tryz.prog 143 #[.int .i64 a, .int .i64 b] w fun e w' => e = .returned (.int .i64 (a / b)) ∧ w' = w := by
 obtain ⟨q, hq, hc⟩ := tdiv_low a b hb
 have bq : -2147483649 ≤ q * b ∧ q * b ≤ 2147483749 ∧ -2147483649 ≤ q ∧ q ≤ 2147483749 := by rcases hb with rfl | rfl <;> omega
 have w1 : IntKind.i64.wrap (q * b) = q * b := by rw [IntKind.wrap_i64]; omega
 have w2 : IntKind.i64.wrap q = q := by rw [IntKind.wrap_i64]; omega
 have w3 : IntKind.i64.wrap (q - 1) = q - 1 := by rw [IntKind.wrap_i64]; omega
 have nb : b ≠ 0 := by omega
 obtain ⟨p, hp⟩ : ∃ p, q * b = p := ⟨_, rfl⟩
 rw [hp] at hc bq w1
 rcases hc with ⟨h1, h2⟩ | ⟨h1, h2⟩
 · have H1 := Lib.hid h1
   clear h1
   go_enter Tryz.func143, Tryz.ntmps143
   go_wp2
   go_ret
   exact ⟨by rw [← H1.out]; rfl, rfl⟩
 · have H1 := Lib.hid h1
   clear h1
   go_enter Tryz.func143, Tryz.ntmps143
   go_wp2
   go_ret
   exact ⟨by rw [← H1.out]; rfl, rfl⟩
theorem ResAt.belowR {B b : Nat} {w w' : World} (h : ResAt w b) (k : Below B w w') (hb : b < B) : ResAt w' b := by
 obtain ⟨h0, h1, h2, h3⟩ := h
 exact ⟨(Below.cell k (p := ⟨b, 0, none⟩) hb).trans h0, (Below.cell k (p := ⟨b, 1, none⟩) hb).trans h1, (Below.frozen k (p := ⟨b, 0, none⟩) hb).trans h2, (Below.frozen k (p := ⟨b, 1, none⟩) hb).trans h3⟩
def midR (k : Nat) (d : Int) (s : Nat → Int) (j : Nat) : Int := if j < k then (s j + d / 2) / d else s j
theorem midR_step {k : Nat} {d : Int} {s : Nat → Int} (j : Nat) : midR (k + 1) d s j = if j = k then (s k + d / 2) / d else midR k d s j := by
 unfold midR
 by_cases h : j = k
 · subst h
   rw [if_pos (by omega), if_pos rfl]
 · rw [if_neg h]
   by_cases h2 : j < k
   · rw [if_pos h2, if_pos (by omega)]
   · rw [if_neg h2, if_neg (by omega)]
set_option maxRecDepth 20000 in
set_option maxHeartbeats 1000000 in
theorem rinverse_ok4 (zs : List Int) (v : Value) (w : World) (ha : Ints w v zs) (hN : zs.length = 16) (hw : within (-16777216) 16777216 zs) (out : List Int) (ho : Hid (out = rowL 16 (midR 16 16 fun i => psum 4 (fun t => zs.getD t 0) i (4 * 4)))) :
 Calls Tryz.prog 102 #[v] w (RBPost w none out) := by
 have SIDE := Lib.hid (show ∀ W, Calls Tryz.prog 141 #[.int .i64 16] W fun e w' => e = .returned (.int .i64 4) ∧ w' = W from fun W => rwside_any 16 W)
 have HW := Lib.hid hw
 have R1 := ResAt.new w
 have E1 : Ext w (w.alloc (.cells #[.int .i64 0, .slice none 0 0] 43)) := (Ext.refl w).alloc _
 have SUM := Lib.hid (fun W h => rsums_any zs 4 v W h (by omega) hw)
 have HB : Hid (∀ i, -1073741824 ≤ psum 4 (fun t => zs.getD t 0) i (4 * 4) ∧ psum 4 (fun t => zs.getD t 0) i (4 * 4) ≤ 1073741824) := fun i => by
  have := psum_bound (n := 4) (i := i) (f := fun t => zs.getD t 0) (fun t => getD_bound hw (by decide) t) (4 * 4)
  omega
 obtain ⟨s, hs⟩ : ∃ s : Nat → Int, s = fun i => psum 4 (fun t => zs.getD t 0) i (4 * 4) := ⟨_, rfl⟩
 have HB2 : Hid (∀ i, -1073741824 ≤ s i ∧ s i ≤ 1073741824) := fun i => by rw [hs]; exact HB.out i
 rw [← hs] at SUM ho
 obtain ⟨a, cap, rfl⟩ := ha.form
 rw [hN] at ha SUM ⊢
 clear hw hN hs HB
 go_enter Tryz.func102, Tryz.ntmps102
 go_wp2_with fail
 refine (SIDE.out _).mono ?_; rintro e w1 ⟨rfl, rfl⟩
 go_wp2_with fail
 refine (within_any zs _ _ _ _ (ha.ext E1)).mono ?_; rintro e w2 ⟨rfl, hx2⟩
 rw [decide_eq_true HW.out]
 have E2 := E1.trans hx2
 have R2 := R1.ext hx2
 clear R1 hx2
 have lt2 : w.heap.size < w2.heap.size := Ext.lt R2.1
 go_wp2_with fail
 refine (SUM.out _ (ha.ext E2)).mono ?_; rintro e w9 ⟨u, rfl, hx9, hown⟩
 have EE : Ext w w9 := E2.trans hx9
 have RR := R2.ext hx9
 obtain ⟨g, cap', rfl, hg, hgl, hc1, hc2⟩ := own_form hown (by decide)
 unfold maxLen at hc2
 clear R2 E2 E1 hx9 SUM hgl
 go_wp2
 go_loopw [6] (fun iv wr => ∃ k : Nat, k ≤ 16 ∧ iv = .int .i64 k ∧ Hid (wr.ownsRow w2.heap.size 3 1 (.slice (some ⟨g, 0, none⟩) 16 cap') 16 ((rowL 16 (midR k 16 s)).map (Value.int .i64))) ∧ Ext w wr ∧ ResAt wr w.heap.size) (fun iv _ => 16 - (intOf iv).toNat)
 case atStart => exact ⟨0, by decide, rfl, by
  show World.ownsRow _ _ _ _ _ _ _
  rw [rowL_congr (g := s) (fun j _ => by unfold midR; rw [if_neg (by omega)])]
  exact hown, EE, RR⟩
 case round =>
  clear hown EE RR
  obtain ⟨k, hk, rfl, HO, EE, RR⟩ := hrel
  by_cases hk4 : k < 16
  · have tk : decide ((k : Int) < 16) = true := decide_eq_true (by omega)
    obtain ⟨cA, fz⟩ := own_cell HO.out hk4
    obtain ⟨A, hA⟩ : ∃ A, s k = A := ⟨_, rfl⟩
    rw [show midR k 16 s k = A by unfold midR; rw [if_neg (by omega)]; exact hA] at cA
    have bA := HB2.out k
    rw [hA] at bA
    have HA := Lib.hid hA
    clear hA
    have e1 : IntKind.i64.wrap (A + 8) = A + 8 := by rw [IntKind.wrap_i64]; omega
    go_wp2_with fail
    refine (rdown8_any _ _ _ (by decide) (by omega)).mono ?_; rintro e w' ⟨rfl, rfl⟩
    go_wp2
    · go_roundw
      case measure => simp [intOf]; omega
      case rel =>
       refine ⟨k + 1, by omega, by go_num, ?_, (Below.setCell EE (Nat.le_of_lt (Nat.lt_of_lt_of_le lt2 hg)) _), RR.belowR (Below.setCell (Below.refl (w.heap.size + 1) _) (Nat.lt_of_lt_of_le lt2 hg) _) (Nat.lt_succ_self _)⟩
       show World.ownsRow _ _ _ _ _ _ _
       have h := own_set (x := (A + 8) / 16) HO.out hk4
       rw [rowL_congr (g := midR (k + 1) 16 s) (fun j _ => by rw [midR_step, HA.out]; rfl)] at h
       exact h
  · have hkk : k = 16 := by omega
    subst hkk
    have ho2 := ownsRow_setCell_below (ownsRow_setCell_below HO.out (a := ⟨w.heap.size, 0, none⟩) lt2 (.int .i64 0)) (a := ⟨w.heap.size, 1, none⟩) lt2 (.slice none 0 0)
    have ho3 := Ints.of_row ho2 (by omega)
    obtain ⟨r0, r1, f0, f1⟩ := RR
    go_wp2
    obtain ⟨e0, e1⟩ := res_cells (c := 0) r0 r1 (.slice none 0 0)
    exact bodyPost_ret (v := .tuple #[.slice (some ⟨g, 0, none⟩) 16 cap', .agg #[.int .i64 0, .slice none 0 0]]) (by simp [results, Tryz.results102, go_sem, e0, e1]) rfl ⟨_, _, rfl, (EE.setCell (by simp) _).setCell (by simp) _, by rw [ho.out]; exact ho3, rfl⟩
set_option maxRecDepth 20000 in
set_option maxHeartbeats 1000000 in
theorem rinverse_ok8 (zs : List Int) (v : Value) (w : World) (ha : Ints w v zs) (hN : zs.length = 64) (hw : within (-16777216) 16777216 zs) (out : List Int) (ho : Hid (out = rowL 64 (midR 64 64 fun i => psum 8 (fun t => zs.getD t 0) i (8 * 8)))) :
 Calls Tryz.prog 102 #[v] w (RBPost w none out) := by
 have SIDE := Lib.hid (show ∀ W, Calls Tryz.prog 141 #[.int .i64 64] W fun e w' => e = .returned (.int .i64 8) ∧ w' = W from fun W => rwside_any 64 W)
 have HW := Lib.hid hw
 have R1 := ResAt.new w
 have E1 : Ext w (w.alloc (.cells #[.int .i64 0, .slice none 0 0] 43)) := (Ext.refl w).alloc _
 have SUM := Lib.hid (fun W h => rsums_any zs 8 v W h (by omega) hw)
 have HB : Hid (∀ i, -1073741824 ≤ psum 8 (fun t => zs.getD t 0) i (8 * 8) ∧ psum 8 (fun t => zs.getD t 0) i (8 * 8) ≤ 1073741824) := fun i => by
  have := psum_bound (n := 8) (i := i) (f := fun t => zs.getD t 0) (fun t => getD_bound hw (by decide) t) (8 * 8)
  omega
 obtain ⟨s, hs⟩ : ∃ s : Nat → Int, s = fun i => psum 8 (fun t => zs.getD t 0) i (8 * 8) := ⟨_, rfl⟩
 have HB2 : Hid (∀ i, -1073741824 ≤ s i ∧ s i ≤ 1073741824) := fun i => by rw [hs]; exact HB.out i
 rw [← hs] at SUM ho
 obtain ⟨a, cap, rfl⟩ := ha.form
 rw [hN] at ha SUM ⊢
 clear hw hN hs HB
 go_enter Tryz.func102, Tryz.ntmps102
 go_wp2_with fail
 refine (SIDE.out _).mono ?_; rintro e w1 ⟨rfl, rfl⟩
 go_wp2_with fail
 refine (within_any zs _ _ _ _ (ha.ext E1)).mono ?_; rintro e w2 ⟨rfl, hx2⟩
 rw [decide_eq_true HW.out]
 have E2 := E1.trans hx2
 have R2 := R1.ext hx2
 clear R1 hx2
 have lt2 : w.heap.size < w2.heap.size := Ext.lt R2.1
 go_wp2_with fail
 refine (SUM.out _ (ha.ext E2)).mono ?_; rintro e w9 ⟨u, rfl, hx9, hown⟩
 have EE : Ext w w9 := E2.trans hx9
 have RR := R2.ext hx9
 obtain ⟨g, cap', rfl, hg, hgl, hc1, hc2⟩ := own_form hown (by decide)
 unfold maxLen at hc2
 clear R2 E2 E1 hx9 SUM hgl
 go_wp2
 go_loopw [6] (fun iv wr => ∃ k : Nat, k ≤ 64 ∧ iv = .int .i64 k ∧ Hid (wr.ownsRow w2.heap.size 3 1 (.slice (some ⟨g, 0, none⟩) 64 cap') 64 ((rowL 64 (midR k 64 s)).map (Value.int .i64))) ∧ Ext w wr ∧ ResAt wr w.heap.size) (fun iv _ => 64 - (intOf iv).toNat)
 case atStart => exact ⟨0, by decide, rfl, by
  show World.ownsRow _ _ _ _ _ _ _
  rw [rowL_congr (g := s) (fun j _ => by unfold midR; rw [if_neg (by omega)])]
  exact hown, EE, RR⟩
 case round =>
  clear hown EE RR
  obtain ⟨k, hk, rfl, HO, EE, RR⟩ := hrel
  by_cases hk4 : k < 64
  · have tk : decide ((k : Int) < 64) = true := decide_eq_true (by omega)
    obtain ⟨cA, fz⟩ := own_cell HO.out hk4
    obtain ⟨A, hA⟩ : ∃ A, s k = A := ⟨_, rfl⟩
    rw [show midR k 64 s k = A by unfold midR; rw [if_neg (by omega)]; exact hA] at cA
    have bA := HB2.out k
    rw [hA] at bA
    have HA := Lib.hid hA
    clear hA
    have e1 : IntKind.i64.wrap (A + 32) = A + 32 := by rw [IntKind.wrap_i64]; omega
    go_wp2_with fail
    refine (rdown8_any _ _ _ (by decide) (by omega)).mono ?_; rintro e w' ⟨rfl, rfl⟩
    go_wp2
    · go_roundw
      case measure => simp [intOf]; omega
      case rel =>
       refine ⟨k + 1, by omega, by go_num, ?_, (Below.setCell EE (Nat.le_of_lt (Nat.lt_of_lt_of_le lt2 hg)) _), RR.belowR (Below.setCell (Below.refl (w.heap.size + 1) _) (Nat.lt_of_lt_of_le lt2 hg) _) (Nat.lt_succ_self _)⟩
       show World.ownsRow _ _ _ _ _ _ _
       have h := own_set (x := (A + 32) / 64) HO.out hk4
       rw [rowL_congr (g := midR (k + 1) 64 s) (fun j _ => by rw [midR_step, HA.out]; rfl)] at h
       exact h
  · have hkk : k = 64 := by omega
    subst hkk
    have ho2 := ownsRow_setCell_below (ownsRow_setCell_below HO.out (a := ⟨w.heap.size, 0, none⟩) lt2 (.int .i64 0)) (a := ⟨w.heap.size, 1, none⟩) lt2 (.slice none 0 0)
    have ho3 := Ints.of_row ho2 (by omega)
    obtain ⟨r0, r1, f0, f1⟩ := RR
    go_wp2
    obtain ⟨e0, e1⟩ := res_cells (c := 0) r0 r1 (.slice none 0 0)
    exact bodyPost_ret (v := .tuple #[.slice (some ⟨g, 0, none⟩) 64 cap', .agg #[.int .i64 0, .slice none 0 0]]) (by simp [results, Tryz.results102, go_sem, e0, e1]) rfl ⟨_, _, rfl, (EE.setCell (by simp) _).setCell (by simp) _, by rw [ho.out]; exact ho3, rfl⟩
theorem psum_tsum (n : Nat) (f : Nat → Int) (i k : Nat) : psum n f i k = tsum (sg n i) f k := by
 induction k with
 | zero => rfl
 | succ k ih => unfold psum tsum; rw [ih]
theorem psum_wht4 (f : Nat → Int) {i : Nat} (hi : i < 16) : psum 4 f i (4 * 4) = wht 4 f i := by
 rw [psum_tsum, wht_tsum (by decide) f i hi]
 exact tsum_congr fun j hj => by rw [bsg_tab4 i hi j hj]; rfl
theorem psum_wht8 (f : Nat → Int) {i : Nat} (hi : i < 64) : psum 8 f i (8 * 8) = wht 6 f i := by
 rw [psum_tsum, wht_tsum (by decide) f i hi]
 exact tsum_congr fun j hj => by rw [bsg_tab8 i hi j hj]; rfl
theorem rinverse_all (zs : List Int) (v : Value) (w : World) (ha : Ints w v zs) : Calls Tryz.prog 102 #[v] w (RBPost w (blkAns zs 16777216) (invL zs)) := by
 unfold blkAns
 split
 · rename_i h
   split
   · rename_i hw
     rcases h with h | h
     · refine rinverse_ok4 zs v w ha h hw _ ?_
       show _ = _
       unfold invL
       rw [h]
       apply rowL_congr
       intro i hi
       unfold midR invF
       rw [if_pos hi]
       show _ = (psum 4 (fun t => zs.getD t 0) i (4 * 4) + 16 / 2) / 16
       rw [psum_wht4 _ hi]
       rfl
     · refine rinverse_ok8 zs v w ha h hw _ ?_
       show _ = _
       unfold invL
       rw [h]
       apply rowL_congr
       intro i hi
       unfold midR invF
       rw [if_pos hi]
       show _ = (psum 8 (fun t => zs.getD t 0) i (8 * 8) + 64 / 2) / 64
       rw [psum_wht8 _ hi]
       rfl
   · rename_i hw
     rcases h with h | h
     · exact rinverse_range zs 16 4 v w ha h.symm (Or.inl ⟨rfl, rfl⟩) hw _
     · exact rinverse_range zs 64 8 v w ha h.symm (Or.inr ⟨rfl, rfl⟩) hw _
 · rename_i h
   exact rinverse_fit zs.length v w ha.form (fun e => h (Or.inl e)) (fun e => h (Or.inr e)) _
end Go.Proofs.YtcekpngkfldgkaaGreatDoor