/- kinref8.sums: its contract over this seat's translation. -/
import Derived.Test.YtbmknmenaaanaaaDoorWSigns
import Derived.Test.YtbmknmenaaanaaaDoorW8Math
import Derived.Test.YtbmknmenaaanaaaDoorWFlat
import Derived.Deep.RegionWith
import Derived.Deep.RegionLaw
import Derived.Deep.AppendLies
import Derived.BigRegion
namespace Go.Proofs.YtbmknmenaaanaaaDoor
set_option linter.unusedVariables false
set_option linter.unusedSimpArgs false
open Go.RowKit Go.Extern.Stop Go.Stop Go.Extern

/-- the sign of sample t in number i -/
def sg (n i t : Nat) : Int := sgn (i % n) (t % n) * sgn (i / n) (t / n)
def psum (n : Nat) (f : Nat → Int) (i : Nat) : Nat → Int
  | 0 => 0
  | j + 1 => psum n f i j + f j * sg n i j
def rowS (n : Nat) (f : Nat → Int) (i j k : Nat) : Int := if k < i then psum n f k (n * n) else if k = i then psum n f i j else 0
theorem sgn_one (u x : Nat) : sgn u x = 1 ∨ sgn u x = -1 := by
  unfold sgn
  split <;> omega
theorem sg_one (n i t : Nat) : sg n i t = 1 ∨ sg n i t = -1 := by
  unfold sg
  rcases sgn_one (i % n) (t % n) with h | h <;> rcases sgn_one (i / n) (t / n) with h' | h' <;> rw [h, h'] <;> decide
theorem psum_bound {n : Nat} {f : Nat → Int} {i : Nat} (hf : ∀ t, -16777216 ≤ f t ∧ f t ≤ 16777216) (j : Nat) : -(16777216 * (j : Int)) ≤ psum n f i j ∧ psum n f i j ≤ 16777216 * (j : Int) := by
  induction j with
  | zero => simp [psum]
  | succ j ih =>
    have h := hf j
    unfold psum
    push_cast
    rcases sg_one n i j with e | e <;> rw [e] <;> omega
theorem rowS_next (n : Nat) (f : Nat → Int) (i k : Nat) : rowS n f i (n * n) k = rowS n f (i + 1) 0 k := by
  unfold rowS
  by_cases h1 : k < i
  · rw [if_pos h1, if_pos (by omega)]
  · rw [if_neg h1]
    by_cases h2 : k = i
    · subst h2
      rw [if_pos rfl, if_pos (by omega)]
    · rw [if_neg h2, if_neg (by omega)]
      by_cases h3 : k = i + 1
      · subst h3
        rw [if_pos rfl]
        rfl
      · rw [if_neg h3]
theorem rowS_step {n : Nat} {f : Nat → Int} {i j : Nat} (k : Nat) : rowS n f i (j + 1) k = if k = i then psum n f i j + f j * sg n i j else rowS n f i j k := by
  unfold rowS
  by_cases h2 : k = i
  · subst h2
    rw [if_neg (Nat.lt_irrefl _), if_pos rfl, if_pos rfl]
    rfl
  · rw [if_neg h2, if_neg h2, if_neg h2]
theorem rowS_self (n : Nat) (f : Nat → Int) (i j : Nat) : rowS n f i j i = psum n f i j := by unfold rowS; rw [if_neg (Nat.lt_irrefl _), if_pos rfl]

set_option maxHeartbeats 1500000 in
set_option maxRecDepth 100000 in
theorem rsums_any (zs : List Int) (n : Nat) (v : Value) (w : World) (ha : Ints w v zs) (hn : n = 4 ∧ zs.length = 16 ∨ n = 8 ∧ zs.length = 64) (hf : within (-16777216) 16777216 zs) :
    Calls Tryd.prog 48 #[v, .int .i64 n] w fun e w' => ∃ u, e = .returned u ∧ Ext w w' ∧ w'.ownsRow w.heap.size 3 1 u zs.length ((rowL zs.length fun i => psum n (fun t => zs.getD t 0) i (n * n)).map (Value.int .i64)) := by
  obtain ⟨i0, hi, hz0, hz1, hz2⟩ := info_parts infoInt
  have HB := Lib.hid (fun t => getD_bound hf (by decide) t)
  have HS := Lib.hid (fun (a b : Nat) (W : World) (h1 : a < 8) (h2 : b < 8) => rsign_in a b h1 h2 W)
  obtain ⟨f, hff⟩ : ∃ f : Nat → Int, f = fun t => zs.getD t 0 := ⟨_, rfl⟩
  have HP : Hid (∀ (i j : Nat), -(16777216 * (j : Int)) ≤ psum n f i j ∧ psum n f i j ≤ 16777216 * (j : Int)) := fun i j => psum_bound (fun t => by rw [hff]; exact HB.out t) j
  rw [← hff]
  have HF : Hid (∀ j x, zs[j]? = some x → f j = x) := fun j x h => by rw [hff]; simp [h]
  clear hff hf
  rcases hn with ⟨rfl, hN⟩ | ⟨rfl, hN⟩
  · obtain ⟨g, off, cap, rfl, c1, c2⟩ := ha.addr (by omega)
    rw [hN] at ha ⊢
    have HN := Lib.hid hN
    clear hN
    go_enter Tryd.func48, Tryd.ntmps48
    go_wp2_with (at_make; refine wpList_make_full _ rfl _ _ 22 rfl w.heap.size 3 i0 (.int .i64 0) 1 Tryd.underlying22 hi hz0 hz1 .i64 .i64 _ _ 16 rfl rfl rfl rfl (by rw [hz2]; omega) (by unfold maxLen; omega) (Nat.le_refl _) ?_; intro w2 hown hgrow)
    have hE : Ext w w2 := Below.grown (Ext.refl w) hgrow (Nat.le_refl _) (fun k hk => by cases hk)
    rw [zeros_row] at hown
    clear hgrow hi hz0 hz1 hz2
    go_wp2
    go_loopw [6] (fun vv wr => ∃ v : Nat, v ≤ 4 ∧ vv = .int .i64 v ∧ Hid (wr.ownsRow w.heap.size 3 1 (.slice (some ⟨w.heap.size, 0, none⟩) 16 16) 16 ((rowL 16 (rowS 4 f (v * 4) 0)).map (Value.int .i64))) ∧ Ext w wr) (fun vv _ => 4 - (intOf vv).toNat)
    case atStart => exact ⟨0, by decide, rfl, by
      show World.ownsRow _ _ _ _ _ _ _
      rw [rowL_congr (g := fun _ => 0) (fun j _ => by unfold rowS; rw [if_neg (by omega)]; split <;> rfl)]
      exact hown, hE⟩
    case round =>
      clear hown hE
      obtain ⟨v, hv, rfl, HO, hE⟩ := hrel
      by_cases hv4 : v < 4
      · have tv : decide ((v : Int) < 4) = true := decide_eq_true (by omega)
        go_wp2
        go_loopw [7] (fun uv wr => ∃ u : Nat, u ≤ 4 ∧ uv = .int .i64 u ∧ Hid (wr.ownsRow w.heap.size 3 1 (.slice (some ⟨w.heap.size, 0, none⟩) 16 16) 16 ((rowL 16 (rowS 4 f (v * 4 + u) 0)).map (Value.int .i64))) ∧ Ext w wr) (fun uv _ => 4 - (intOf uv).toNat)
        case atStart => exact ⟨0, by decide, rfl, HO.out, hE⟩
        case round =>
          clear HO hE
          obtain ⟨u, hu, rfl, HO, hE⟩ := hrel
          by_cases hu4 : u < 4
          · have tu : decide ((u : Int) < 4) = true := decide_eq_true (by omega)
            go_wp2
            go_loopw [8] (fun yv wr => ∃ y : Nat, y ≤ 4 ∧ yv = .int .i64 y ∧ Hid (wr.ownsRow w.heap.size 3 1 (.slice (some ⟨w.heap.size, 0, none⟩) 16 16) 16 ((rowL 16 (rowS 4 f (v * 4 + u) (y * 4))).map (Value.int .i64))) ∧ Ext w wr) (fun yv _ => 4 - (intOf yv).toNat)
            case atStart => exact ⟨0, by decide, rfl, HO.out, hE⟩
            case round =>
              clear HO hE
              obtain ⟨y, hy, rfl, HO, hE⟩ := hrel
              by_cases hy4 : y < 4
              · have ty : decide ((y : Int) < 4) = true := decide_eq_true (by omega)
                go_wp2
                go_loopw [9] (fun xv wr => ∃ x : Nat, x ≤ 4 ∧ xv = .int .i64 x ∧ Hid (wr.ownsRow w.heap.size 3 1 (.slice (some ⟨w.heap.size, 0, none⟩) 16 16) 16 ((rowL 16 (rowS 4 f (v * 4 + u) (y * 4 + x))).map (Value.int .i64))) ∧ Ext w wr) (fun xv _ => 4 - (intOf xv).toNat)
                case atStart => exact ⟨0, by decide, rfl, HO.out, hE⟩
                case round =>
                  clear HO hE
                  obtain ⟨x, hx, rfl, HO, hE⟩ := hrel
                  by_cases hx4 : x < 4
                  · have tx : decide ((x : Int) < 4) = true := decide_eq_true (by omega)
                    obtain ⟨i, hi⟩ : ∃ i, i = v * 4 + u := ⟨_, rfl⟩
                    obtain ⟨j, hj⟩ : ∃ j, j = y * 4 + x := ⟨_, rfl⟩
                    have hi16 : i < 16 := by omega
                    have hj16 : j < 16 := by omega
                    have HO1 : Hid (wr.ownsRow w.heap.size 3 1 (.slice (some ⟨w.heap.size, 0, none⟩) 16 16) 16 ((rowL 16 (rowS 4 f i j)).map (Value.int .i64))) := by rw [hi, hj]; exact HO.out
                    obtain ⟨cA, fz⟩ := own_cell HO1.out hi16
                    rw [rowS_self] at cA
                    have pA := HP.out i j
                    have pB := HP.out i (j + 1)
                    have hzj : zs[j]? = some (f j) := by
                      have e : zs[j]? = some (zs[j]'(by rw [HN.out]; exact hj16)) := by simp
                      rw [HF.out j _ e]; exact e
                    have cB := hE.cell (ha.at hzj)
                    have bB := HB.out j
                    obtain ⟨A, hA⟩ : ∃ A, psum 4 f i j = A := ⟨_, rfl⟩
                    obtain ⟨b, hb⟩ : ∃ b, f j = b := ⟨_, rfl⟩
                    have bb : -16777216 ≤ b ∧ b ≤ 16777216 := by rw [← hb]; rw [show f j = zs.getD j 0 by simp [List.getD, hzj]]; exact bB
                    obtain ⟨s1, hs1⟩ : ∃ s1, sgn u x = s1 := ⟨_, rfl⟩
                    obtain ⟨s2, hs2⟩ : ∃ s2, sgn v y = s2 := ⟨_, rfl⟩
                    have hsg : sg 4 i j = s1 * s2 := by
                      unfold sg
                      rw [show i % 4 = u by omega, show j % 4 = x by omega, show i / 4 = v by omega, show j / 4 = y by omega, hs1, hs2]
                    have hm1 : -16777216 ≤ b * s1 ∧ b * s1 ≤ 16777216 := by rcases sgn_one u x with e | e <;> rw [hs1] at e <;> rw [e] <;> omega
                    have hm2 : -16777216 ≤ b * s1 * s2 ∧ b * s1 * s2 ≤ 16777216 := by rcases sgn_one v y with e | e <;> rw [hs2] at e <;> rw [e] <;> omega
                    rw [hA] at cA pA
                    rw [hb] at cB
                    have HNEW : Hid (psum 4 f i j + f j * sg 4 i j = A + b * s1 * s2) := by show _ = _; rw [hA, hb, hsg, Int.mul_assoc]
                    have e1 : IntKind.i64.wrap ((v : Int) * 4) = (v : Int) * 4 := by rw [IntKind.wrap_i64]; omega
                    have e2 : IntKind.i64.wrap ((v : Int) * 4 + u) = (v : Int) * 4 + u := by rw [IntKind.wrap_i64]; omega
                    have e3 : IntKind.i64.wrap ((y : Int) * 4) = (y : Int) * 4 := by rw [IntKind.wrap_i64]; omega
                    have e4 : IntKind.i64.wrap ((y : Int) * 4 + x) = (y : Int) * 4 + x := by rw [IntKind.wrap_i64]; omega
                    have e5 : IntKind.i64.wrap (b * s1) = b * s1 := by rw [IntKind.wrap_i64]; omega
                    have e6 : IntKind.i64.wrap (b * s1 * s2) = b * s1 * s2 := by rw [IntKind.wrap_i64]; omega
                    have e7 : IntKind.i64.wrap (A + b * s1 * s2) = A + b * s1 * s2 := by rw [IntKind.wrap_i64]; omega
                    have x1 : ((v : Int) * 4 + u).toNat = i := by omega
                    have x2 : ((y : Int) * 4 + x).toNat = j := by omega
                    have x3 : 0 ≤ (v : Int) * 4 + u := by omega
                    have x4 : 0 ≤ (y : Int) * 4 + x := by omega
                    have x5 : (v : Int) * 4 + u < 16 := by omega
                    have x6 : (y : Int) * 4 + x < 16 := by omega
                    have HIJ : Hid (i = v * 4 + u ∧ j = y * 4 + x) := ⟨hi, hj⟩
                    clear hi hj HO hzj bB hA hb hsg pB
                    go_wp2
                    go_region_law (first | (go_simp; go_at_call 24; refine (HS.out _ _ _ (by omega) (by omega)).mono ?_; rintro e w' ⟨rfl, rfl⟩; (first | rw [hs1] | rw [hs2])))
                    all_goals
                      go_wp2
                      go_roundw
                      case measure => simp [intOf]; omega
                      case rel =>
                        refine ⟨x + 1, by omega, by go_num, ?_, (Below.setCell hE (Nat.le_refl _) _).drew⟩
                        show World.ownsRow _ _ _ _ _ _ _
                        have h := own_ext (own_set (x := A + b * s1 * s2) HO1.out hi16) ((Ext.refl _).drew)
                        rw [rowL_congr (g := rowS 4 f i (j + 1)) (fun k _ => by rw [rowS_step, HNEW.out])] at h
                        rw [show y * 4 + (x + 1) = j + 1 by rw [HIJ.out.2]; omega, ← HIJ.out.1]
                        exact h
                  · go_wp2
                    go_roundw
                    case rel =>
                      have hx4' : x = 4 := by omega
                      subst hx4'
                      exact ⟨y + 1, by omega, by go_num, by show World.ownsRow _ _ _ _ _ _ _; rw [show (y + 1) * 4 = y * 4 + 4 by omega]; exact HO.out, hE⟩
                    case measure => simp [intOf]; omega
              · go_wp2
                go_roundw
                case rel =>
                  have hy4' : y = 4 := by omega
                  subst hy4'
                  exact ⟨u + 1, by omega, by go_num, by
                    show World.ownsRow _ _ _ _ _ _ _
                    rw [← rowL_congr (f := rowS 4 f (v * 4 + u) (4 * 4)) (g := rowS 4 f (v * 4 + (u + 1)) 0) (fun k _ => rowS_next 4 f (v * 4 + u) k)]
                    exact HO.out, hE⟩
                case measure => simp [intOf]; omega
          · go_wp2
            go_roundw
            case rel =>
              have hu4' : u = 4 := by omega
              subst hu4'
              exact ⟨v + 1, by omega, by go_num, by show World.ownsRow _ _ _ _ _ _ _; rw [show (v + 1) * 4 = v * 4 + 4 by omega]; exact HO.out, hE⟩
            case measure => simp [intOf]; omega
      · have hv4' : v = 4 := by omega
        subst hv4'
        have ho := HO.out
        rw [rowL_congr (g := fun i => psum 4 f i (4 * 4)) (fun j hj => by unfold rowS; rw [if_pos (by omega)])] at ho
        go_wp2
        go_ret
        exact ⟨_, rfl, hE, ho⟩
  · obtain ⟨g, off, cap, rfl, c1, c2⟩ := ha.addr (by omega)
    rw [hN] at ha ⊢
    have HN := Lib.hid hN
    clear hN
    go_enter Tryd.func48, Tryd.ntmps48
    go_wp2_with (at_make; refine wpList_make_full _ rfl _ _ 22 rfl w.heap.size 3 i0 (.int .i64 0) 1 Tryd.underlying22 hi hz0 hz1 .i64 .i64 _ _ 64 rfl rfl rfl rfl (by rw [hz2]; omega) (by unfold maxLen; omega) (Nat.le_refl _) ?_; intro w2 hown hgrow)
    have hE : Ext w w2 := Below.grown (Ext.refl w) hgrow (Nat.le_refl _) (fun k hk => by cases hk)
    rw [zeros_row] at hown
    clear hgrow hi hz0 hz1 hz2
    go_wp2
    go_loopw [6] (fun vv wr => ∃ v : Nat, v ≤ 8 ∧ vv = .int .i64 v ∧ Hid (wr.ownsRow w.heap.size 3 1 (.slice (some ⟨w.heap.size, 0, none⟩) 64 64) 64 ((rowL 64 (rowS 8 f (v * 8) 0)).map (Value.int .i64))) ∧ Ext w wr) (fun vv _ => 8 - (intOf vv).toNat)
    case atStart => exact ⟨0, by decide, rfl, by
      show World.ownsRow _ _ _ _ _ _ _
      rw [rowL_congr (g := fun _ => 0) (fun j _ => by unfold rowS; rw [if_neg (by omega)]; split <;> rfl)]
      exact hown, hE⟩
    case round =>
      clear hown hE
      obtain ⟨v, hv, rfl, HO, hE⟩ := hrel
      by_cases hv4 : v < 8
      · have tv : decide ((v : Int) < 8) = true := decide_eq_true (by omega)
        go_wp2
        go_loopw [7] (fun uv wr => ∃ u : Nat, u ≤ 8 ∧ uv = .int .i64 u ∧ Hid (wr.ownsRow w.heap.size 3 1 (.slice (some ⟨w.heap.size, 0, none⟩) 64 64) 64 ((rowL 64 (rowS 8 f (v * 8 + u) 0)).map (Value.int .i64))) ∧ Ext w wr) (fun uv _ => 8 - (intOf uv).toNat)
        case atStart => exact ⟨0, by decide, rfl, HO.out, hE⟩
        case round =>
          clear HO hE
          obtain ⟨u, hu, rfl, HO, hE⟩ := hrel
          by_cases hu4 : u < 8
          · have tu : decide ((u : Int) < 8) = true := decide_eq_true (by omega)
            go_wp2
            go_loopw [8] (fun yv wr => ∃ y : Nat, y ≤ 8 ∧ yv = .int .i64 y ∧ Hid (wr.ownsRow w.heap.size 3 1 (.slice (some ⟨w.heap.size, 0, none⟩) 64 64) 64 ((rowL 64 (rowS 8 f (v * 8 + u) (y * 8))).map (Value.int .i64))) ∧ Ext w wr) (fun yv _ => 8 - (intOf yv).toNat)
            case atStart => exact ⟨0, by decide, rfl, HO.out, hE⟩
            case round =>
              clear HO hE
              obtain ⟨y, hy, rfl, HO, hE⟩ := hrel
              by_cases hy4 : y < 8
              · have ty : decide ((y : Int) < 8) = true := decide_eq_true (by omega)
                go_wp2
                go_loopw [9] (fun xv wr => ∃ x : Nat, x ≤ 8 ∧ xv = .int .i64 x ∧ Hid (wr.ownsRow w.heap.size 3 1 (.slice (some ⟨w.heap.size, 0, none⟩) 64 64) 64 ((rowL 64 (rowS 8 f (v * 8 + u) (y * 8 + x))).map (Value.int .i64))) ∧ Ext w wr) (fun xv _ => 8 - (intOf xv).toNat)
                case atStart => exact ⟨0, by decide, rfl, HO.out, hE⟩
                case round =>
                  clear HO hE
                  obtain ⟨x, hx, rfl, HO, hE⟩ := hrel
                  by_cases hx4 : x < 8
                  · have tx : decide ((x : Int) < 8) = true := decide_eq_true (by omega)
                    obtain ⟨i, hi⟩ : ∃ i, i = v * 8 + u := ⟨_, rfl⟩
                    obtain ⟨j, hj⟩ : ∃ j, j = y * 8 + x := ⟨_, rfl⟩
                    have hi16 : i < 64 := by omega
                    have hj16 : j < 64 := by omega
                    have HO1 : Hid (wr.ownsRow w.heap.size 3 1 (.slice (some ⟨w.heap.size, 0, none⟩) 64 64) 64 ((rowL 64 (rowS 8 f i j)).map (Value.int .i64))) := by rw [hi, hj]; exact HO.out
                    obtain ⟨cA, fz⟩ := own_cell HO1.out hi16
                    rw [rowS_self] at cA
                    have pA := HP.out i j
                    have pB := HP.out i (j + 1)
                    have hzj : zs[j]? = some (f j) := by
                      have e : zs[j]? = some (zs[j]'(by rw [HN.out]; exact hj16)) := by simp
                      rw [HF.out j _ e]; exact e
                    have cB := hE.cell (ha.at hzj)
                    have bB := HB.out j
                    obtain ⟨A, hA⟩ : ∃ A, psum 8 f i j = A := ⟨_, rfl⟩
                    obtain ⟨b, hb⟩ : ∃ b, f j = b := ⟨_, rfl⟩
                    have bb : -16777216 ≤ b ∧ b ≤ 16777216 := by rw [← hb]; rw [show f j = zs.getD j 0 by simp [List.getD, hzj]]; exact bB
                    obtain ⟨s1, hs1⟩ : ∃ s1, sgn u x = s1 := ⟨_, rfl⟩
                    obtain ⟨s2, hs2⟩ : ∃ s2, sgn v y = s2 := ⟨_, rfl⟩
                    have hsg : sg 8 i j = s1 * s2 := by
                      unfold sg
                      rw [show i % 8 = u by omega, show j % 8 = x by omega, show i / 8 = v by omega, show j / 8 = y by omega, hs1, hs2]
                    have hm1 : -16777216 ≤ b * s1 ∧ b * s1 ≤ 16777216 := by rcases sgn_one u x with e | e <;> rw [hs1] at e <;> rw [e] <;> omega
                    have hm2 : -16777216 ≤ b * s1 * s2 ∧ b * s1 * s2 ≤ 16777216 := by rcases sgn_one v y with e | e <;> rw [hs2] at e <;> rw [e] <;> omega
                    rw [hA] at cA pA
                    rw [hb] at cB
                    have HNEW : Hid (psum 8 f i j + f j * sg 8 i j = A + b * s1 * s2) := by show _ = _; rw [hA, hb, hsg, Int.mul_assoc]
                    have e1 : IntKind.i64.wrap ((v : Int) * 8) = (v : Int) * 8 := by rw [IntKind.wrap_i64]; omega
                    have e2 : IntKind.i64.wrap ((v : Int) * 8 + u) = (v : Int) * 8 + u := by rw [IntKind.wrap_i64]; omega
                    have e3 : IntKind.i64.wrap ((y : Int) * 8) = (y : Int) * 8 := by rw [IntKind.wrap_i64]; omega
                    have e4 : IntKind.i64.wrap ((y : Int) * 8 + x) = (y : Int) * 8 + x := by rw [IntKind.wrap_i64]; omega
                    have e5 : IntKind.i64.wrap (b * s1) = b * s1 := by rw [IntKind.wrap_i64]; omega
                    have e6 : IntKind.i64.wrap (b * s1 * s2) = b * s1 * s2 := by rw [IntKind.wrap_i64]; omega
                    have e7 : IntKind.i64.wrap (A + b * s1 * s2) = A + b * s1 * s2 := by rw [IntKind.wrap_i64]; omega
                    have x1 : ((v : Int) * 8 + u).toNat = i := by omega
                    have x2 : ((y : Int) * 8 + x).toNat = j := by omega
                    have x3 : 0 ≤ (v : Int) * 8 + u := by omega
                    have x4 : 0 ≤ (y : Int) * 8 + x := by omega
                    have x5 : (v : Int) * 8 + u < 64 := by omega
                    have x6 : (y : Int) * 8 + x < 64 := by omega
                    have HIJ : Hid (i = v * 8 + u ∧ j = y * 8 + x) := ⟨hi, hj⟩
                    clear hi hj HO hzj bB hA hb hsg pB
                    go_wp2
                    go_region_law (first | (go_simp; go_at_call 24; refine (HS.out _ _ _ (by omega) (by omega)).mono ?_; rintro e w' ⟨rfl, rfl⟩; (first | rw [hs1] | rw [hs2])))
                    all_goals
                      go_wp2
                      go_roundw
                      case measure => simp [intOf]; omega
                      case rel =>
                        refine ⟨x + 1, by omega, by go_num, ?_, (Below.setCell hE (Nat.le_refl _) _).drew⟩
                        show World.ownsRow _ _ _ _ _ _ _
                        have h := own_ext (own_set (x := A + b * s1 * s2) HO1.out hi16) ((Ext.refl _).drew)
                        rw [rowL_congr (g := rowS 8 f i (j + 1)) (fun k _ => by rw [rowS_step, HNEW.out])] at h
                        rw [show y * 8 + (x + 1) = j + 1 by rw [HIJ.out.2]; omega, ← HIJ.out.1]
                        exact h
                  · go_wp2
                    go_roundw
                    case rel =>
                      have hx4' : x = 8 := by omega
                      subst hx4'
                      exact ⟨y + 1, by omega, by go_num, by show World.ownsRow _ _ _ _ _ _ _; rw [show (y + 1) * 8 = y * 8 + 8 by omega]; exact HO.out, hE⟩
                    case measure => simp [intOf]; omega
              · go_wp2
                go_roundw
                case rel =>
                  have hy4' : y = 8 := by omega
                  subst hy4'
                  exact ⟨u + 1, by omega, by go_num, by
                    show World.ownsRow _ _ _ _ _ _ _
                    rw [← rowL_congr (f := rowS 8 f (v * 8 + u) (8 * 8)) (g := rowS 8 f (v * 8 + (u + 1)) 0) (fun k _ => rowS_next 8 f (v * 8 + u) k)]
                    exact HO.out, hE⟩
                case measure => simp [intOf]; omega
          · go_wp2
            go_roundw
            case rel =>
              have hu4' : u = 8 := by omega
              subst hu4'
              exact ⟨v + 1, by omega, by go_num, by show World.ownsRow _ _ _ _ _ _ _; rw [show (v + 1) * 8 = v * 8 + 8 by omega]; exact HO.out, hE⟩
            case measure => simp [intOf]; omega
      · have hv4' : v = 8 := by omega
        subst hv4'
        have ho := HO.out
        rw [rowL_congr (g := fun i => psum 8 f i (8 * 8)) (fun j hj => by unfold rowS; rw [if_pos (by omega)])] at ho
        go_wp2
        go_ret
        exact ⟨_, rfl, hE, ho⟩
end Go.Proofs.YtbmknmenaaanaaaDoor
