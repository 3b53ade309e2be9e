/- Contracts of this seat: Mo9, MoM, Kp, Mo10, Mo11, Mo12, Mo13. -/
import Derived.Test.YtaamnpbhmckpbaaDoorZc
import Derived.Deep.LoopGhost
import Derived.WalkMore
import Derived.Lib.Hide
/- (*motion.search).cost: its contract over this seat's translation. -/
namespace Go.Proofs.YtaamnpbhmckpbaaDoor
set_option linter.unusedVariables false
set_option linter.unusedSimpArgs false
open Go.RowKit Go.Extern.Stop Go.Stop Go.Extern

/-- a search's nine cells -/
def SrBox (w : World) (b : Nat) (W H : Int) (u ub : Value) (x y bx by' l : Int) : Prop :=
  w.cell? ⟨b, 0, none⟩ = some (.int .i64 W) ∧ w.cell? ⟨b, 1, none⟩ = some (.int .i64 H) ∧ w.cell? ⟨b, 2, none⟩ = some u ∧ w.cell? ⟨b, 3, none⟩ = some ub ∧ w.cell? ⟨b, 4, none⟩ = some (.int .i64 x) ∧ w.cell? ⟨b, 5, none⟩ = some (.int .i64 y) ∧ w.cell? ⟨b, 6, none⟩ = some (.int .i64 bx) ∧ w.cell? ⟨b, 7, none⟩ = some (.int .i64 by') ∧ w.cell? ⟨b, 8, none⟩ = some (.int .i64 l)
theorem SrBox.ext {w w' : World} {b : Nat} {W H : Int} {u ub : Value} {x y bx by' l : Int} (h : SrBox w b W H u ub x y bx by' l) (k : Ext w w') : SrBox w' b W H u ub x y bx by' l :=
  ⟨k.cell h.1, k.cell h.2.1, k.cell h.2.2.1, k.cell h.2.2.2.1, k.cell h.2.2.2.2.1, k.cell h.2.2.2.2.2.1, k.cell h.2.2.2.2.2.2.1, k.cell h.2.2.2.2.2.2.2.1, k.cell h.2.2.2.2.2.2.2.2⟩
/-- what a vector costs, behind so many samples -/
def scF (W H : Int) (zs bs : List Int) (x y vx vy : Int) (k : Nat) : Int := lenV vx vy + 4 * sadF (mvF W H zs x y vx vy 8) (fun i => bs.getD i 0) k
theorem scF_succ (W H : Int) (zs bs : List Int) (x y vx vy : Int) (k : Nat) : scF W H zs bs x y vx vy (k + 1) = scF W H zs bs x y vx vy k + 4 * max (mvF W H zs x y vx vy 8 k - bs.getD k 0) (bs.getD k 0 - mvF W H zs x y vx vy 8 k) := by
  unfold scF
  show _ + 4 * (_ + _) = _
  rw [Int.mul_add, ← Int.add_assoc]
theorem scF_mono (W H : Int) (zs bs : List Int) (x y vx vy : Int) {j k : Nat} (h : j ≤ k) : scF W H zs bs x y vx vy j ≤ scF W H zs bs x y vx vy k := by
  obtain ⟨d, rfl⟩ := Nat.le.dest h
  clear h
  induction d with
  | zero => exact Int.le_refl _
  | succ d ih => rw [← Nat.add_assoc, scF_succ]; omega
theorem halfV_in {W H : Int} {zs : List Int} (h : may W H zs) (x y : Int) : 0 ≤ halfV W H zs x y ∧ halfV W H zs x y ≤ 255 := by
  unfold halfV
  have v0 := atV_in h (x / 2) (y / 2)
  have v1 := atV_in h (x / 2 + 1) (y / 2)
  have v2 := atV_in h (x / 2) (y / 2 + 1)
  have v3 := atV_in h (x / 2 + 1) (y / 2 + 1)
  split
  · split <;> omega
  · split <;> omega
theorem scF_in {W H : Int} {zs bs : List Int} {vx vy : Int} (h : may W H zs) (hv : vecB vx vy = true) (hB : ∀ k, 0 ≤ bs.getD k 0 ∧ bs.getD k 0 ≤ 255) (x y : Int) (k : Nat) : 0 ≤ scF W H zs bs x y vx vy k ∧ scF W H zs bs x y vx vy k ≤ 30 + 1020 * k := by
  induction k with
  | zero => have := lenV_in hv; unfold scF; simp [sadF]; omega
  | succ k ih =>
    have h1 : 0 ≤ mvF W H zs x y vx vy 8 k ∧ mvF W H zs x y vx vy 8 k ≤ 255 := halfV_in h _ _
    have h2 := hB k
    rw [scF_succ]
    push_cast
    omega
set_option maxHeartbeats 4000000 in
set_option maxRecDepth 20000 in
theorem scost_any (W H x y vx vy most bx by' l : Int) (zs bs : List Int) (a a2 : Option Addr) (n cap n2 cap2 b : Nat) (w : World) (h : Ints w (.slice a n cap) zs) (hb : Ints w (.slice a2 n2 cap2) bs)
    (hS : SrBox w b W H (.slice a n cap) (.slice a2 n2 cap2) x y bx by' l) (hm : may W H zs) (hv : vecB vx vy = true) (hx : 0 ≤ x ∧ x ≤ 32) (hy : 0 ≤ y ∧ y ≤ 32) (hN : bs.length = 64) (hB : ∀ k, 0 ≤ bs.getD k 0 ∧ bs.getD k 0 ≤ 255) :
    Calls Tryd.prog 72 #[.pointer (some ⟨b, 0, none⟩), .agg #[.int .i64 vx, .int .i64 vy], .int .i64 most] w fun e w' => ∃ c, e = .returned (.int .i64 c) ∧ Ext w w' ∧ (c = scF W H zs bs x y vx vy 64 ∨ (0 ≤ most ∧ most ≤ c ∧ most ≤ scF W H zs bs x y vx vy 64)) := by
  obtain ⟨v1, v2, v3, v4⟩ := vecB_true hv
  obtain ⟨l1, l2⟩ := lenV_in hv
  have r1 := mx2
  have hl2 := hb.len
  obtain rfl : n2 = 64 := by omega
  clear hl2
  obtain ⟨g2, off2, rfl⟩ := hb.had (by omega)
  have A1 := Lib.hid (fun (w : World) (x y : Int) (h : Ints w (.slice a n cap) zs) b1 b2 => mhalf_any W H x y zs a n cap w h hm b1 b2)
  have G0 : VcBox (w.alloc (.cells #[.int .i64 vx, .int .i64 vy] 69)) w.heap.size vx vy := ⟨by simp, by simp⟩
  have E0 : Ext w (w.alloc (.cells #[.int .i64 vx, .int .i64 vy] 69)) := (Ext.refl w).alloc _
  go_enter Tryd.func72, Tryd.ntmps72
  go_wp2_with fail
  go_step3
  go_wp2_with fail
  revert G0 E0
  generalize w.alloc (.cells #[.int .i64 vx, .int .i64 vy] 69) = w0
  intro G0 E0
  have GB := Lib.hid G0
  have SB := Lib.hid (hS.ext E0)
  clear G0
  refine (len_any _ _ _ (by omega) (by omega)).mono ?_; rintro e w1 ⟨rfl, hx1⟩
  have GC := Lib.hid (GB.out.ext hx1)
  have SC := Lib.hid (SB.out.ext hx1)
  have E1 := E0.trans hx1
  clear hx1 E0 GB SB
  go_wp2_with fail
  go_step3
  go_wp2_with fail
  have hs0 : scF W H zs bs x y vx vy 0 = lenV vx vy := by unfold scF; simp [sadF]
  go_loopw [7, 13] (fun cv jv wr => ∃ j : Nat, j ≤ 8 ∧ jv = .int .i64 j ∧ cv = .int .i64 (scF W H zs bs x y vx vy (j * 8)) ∧ Ext w1 wr) (fun _ jv _ => 8 - (intOf jv).toNat)
  case atStart => exact ⟨0, Nat.zero_le _, rfl, by rw [Nat.zero_mul, hs0], Ext.refl _⟩
  case round =>
    obtain ⟨j, hj, rfl, rfl, hE⟩ := hrel
    by_cases hlt : j < 8
    · have t1 : decide ((j : Int) < 8) = true := decide_eq_true (by omega)
      have t2 : (j : Int) < 8 := by omega
      go_wp2_with fail
      go_loopw [7, 16] (fun cv iv wr => ∃ i : Nat, i ≤ 8 ∧ iv = .int .i64 i ∧ cv = .int .i64 (scF W H zs bs x y vx vy (j * 8 + i)) ∧ Ext w1 wr) (fun _ iv _ => 8 - (intOf iv).toNat)
      case atStart => exact ⟨0, Nat.zero_le _, rfl, rfl, hE⟩
      case round =>
        clear hE
        obtain ⟨i, hi, rfl, rfl, hE⟩ := hrel
        by_cases hit : i < 8
        · obtain ⟨c, hc⟩ : ∃ c, scF W H zs bs x y vx vy (j * 8 + i) = c := ⟨_, rfl⟩
          rw [hc]
          by_cases hbr : 0 ≤ most ∧ most ≤ c
          · obtain ⟨hb1, hb2⟩ := hbr
            go_wp2_with fail
            try rw [Exit.noGoto_ret]
            go_ret
            exact ⟨c, rfl, E1.trans hE, .inr ⟨hb1, hb2, Int.le_trans hb2 (by rw [← hc]; exact scF_mono _ _ _ _ _ _ _ _ (by omega))⟩⟩
          · have P := Lib.hid hbr
            by_cases hm0 : 0 ≤ most
            · have hm1 : c < most := by omega
              clear hbr
              have d0 : IntKind.i64.wrap (x + (i : Int)) = x + (i : Int) := by rw [IntKind.wrap_i64]; omega
              have d2 : IntKind.i64.wrap (y + (j : Int)) = y + (j : Int) := by rw [IntKind.wrap_i64]; omega
              have d3 : IntKind.i64.wrap (2 * (x + (i : Int))) = 2 * (x + (i : Int)) := by rw [IntKind.wrap_i64]; omega
              have d4 : IntKind.i64.wrap (2 * (y + (j : Int))) = 2 * (y + (j : Int)) := by rw [IntKind.wrap_i64]; omega
              have d5 : IntKind.i64.wrap (2 * (x + (i : Int)) + vx) = 2 * (x + (i : Int)) + vx := by rw [IntKind.wrap_i64]; omega
              have d6 : IntKind.i64.wrap (2 * (y + (j : Int)) + vy) = 2 * (y + (j : Int)) + vy := by rw [IntKind.wrap_i64]; omega
              have d7 : IntKind.i64.wrap ((j : Int) * 8) = (j : Int) * 8 := by rw [IntKind.wrap_i64]; omega
              obtain ⟨K, hK⟩ : ∃ K, K = j * 8 + i := ⟨_, rfl⟩
              have d8 : IntKind.i64.wrap ((j : Int) * 8 + (i : Int)) = (K : Int) := by rw [IntKind.wrap_i64]; omega
              have d9 : (0 : Int) ≤ (K : Int) := by omega
              have d10 : (K : Int) < 64 := by omega
              have HS : Hid (scF W H zs bs x y vx vy (j * 8 + (i + 1)) = c + 4 * max (halfV W H zs (2 * (x + (i : Int)) + vx) (2 * (y + (j : Int)) + vy) - bs.getD (j * 8 + i) 0) (bs.getD (j * 8 + i) 0 - halfV W H zs (2 * (x + (i : Int)) + vx) (2 * (y + (j : Int)) + vy))) := by show _ = _; rw [← Nat.add_assoc, scF_succ, mv_at W H zs x y vx vy j hit, hc]
              have A2 := Lib.hid (fun w h => A1.out w (2 * (x + (i : Int)) + vx) (2 * (y + (j : Int)) + vy) h (by omega) (by omega))
              have hcell := Lib.hid ((hb.ext (E1.trans hE)).at (get_of_lt (j := K) (by omega)))
              rw [← hK] at HS
              obtain ⟨z1, z2⟩ := halfV_in hm (2 * (x + (i : Int)) + vx) (2 * (y + (j : Int)) + vy)
              obtain ⟨z3, z4⟩ := hB K
              obtain ⟨c1, c2⟩ := scF_in (bs := bs) hm hv hB x y (j * 8 + i)
              rw [hc] at c1 c2
              have HKK := Lib.hid hK
              clear hK
              revert z1 z2 z3 z4 hcell HS A2
              generalize halfV W H zs (2 * (x + (i : Int)) + vx) (2 * (y + (j : Int)) + vy) = z
              generalize bs.getD K 0 = q
              intro HS A2 hcell z1 z2 z3 z4
              have s1 : IntKind.i64.wrap (z - q) = z - q := by rw [IntKind.wrap_i64]; omega
              have s2 : IntKind.i64.wrap (-(z - q)) = q - z := by rw [IntKind.wrap_i64]; omega
              have s3 : IntKind.i64.wrap (4 * max (z - q) (q - z)) = 4 * max (z - q) (q - z) := by rw [IntKind.wrap_i64]; omega
              have s4 : IntKind.i64.wrap (c + 4 * max (z - q) (q - z)) = c + 4 * max (z - q) (q - z) := by rw [IntKind.wrap_i64]; omega
              obtain ⟨p0, p1, p2, p3, p4, p5, -, -, -⟩ := SC.out.ext hE
              obtain ⟨o0, o1⟩ := GC.out.ext hE
              have p6 := hcell.out
              clear hcell
              go_wp2_with fail
              go_region_held3 (fun w' => w'.cell? ⟨b, 0, none⟩ = some (.int .i64 W) ∧ w'.cell? ⟨b, 1, none⟩ = some (.int .i64 H) ∧ w'.cell? ⟨b, 2, none⟩ = some (.slice a n cap) ∧ w'.cell? ⟨b, 3, none⟩ = some (.slice (some ⟨g2, off2, none⟩) 64 cap2) ∧ w'.cell? ⟨b, 4, none⟩ = some (.int .i64 x) ∧ w'.cell? ⟨b, 5, none⟩ = some (.int .i64 y) ∧ w'.cell? ⟨w.heap.size, 0, none⟩ = some (.int .i64 vx) ∧ w'.cell? ⟨w.heap.size, 1, none⟩ = some (.int .i64 vy) ∧ w'.cell? ⟨g2, off2 + K, none⟩ = some (.int .i64 q) ∧ Ext w1 w')
                (first | assumption | (exact ⟨p0, p1, p2, p3, p4, p5, o0, o1, p6, hE⟩) | (exact ⟨hE.drew.cell (SC.out.1), hE.drew.cell (SC.out.2.1), hE.drew.cell (SC.out.2.2.1), hE.drew.cell (SC.out.2.2.2.1), hE.drew.cell (SC.out.2.2.2.2.1), hE.drew.cell (SC.out.2.2.2.2.2.1), hE.drew.cell GC.out.1, hE.drew.cell GC.out.2, (Ext.refl _).drew.cell p6, hE.drew⟩) | (go_split_ands; exact ⟨hx.cell (by assumption), hx.cell (by assumption), hx.cell (by assumption), hx.cell (by assumption), hx.cell (by assumption), hx.cell (by assumption), hx.cell (by assumption), hx.cell (by assumption), hx.cell (by assumption), Ext.trans (by assumption) hx⟩))
                ((go_at_call 62; obtain ⟨_, _, _, _, _, _, _, _, _, hE1⟩ : _ ∧ _ ∧ _ ∧ _ ∧ _ ∧ _ ∧ _ ∧ _ ∧ _ ∧ Ext w1 _ := (by assumption); refine (A2.out _ (h.ext (E1.trans hE1))).mono ?_; rintro e w' ⟨rfl, hx⟩))
              all_goals obtain ⟨_, _, _, _, _, _, _, _, _, hE1⟩ : _ ∧ _ ∧ _ ∧ _ ∧ _ ∧ _ ∧ _ ∧ _ ∧ _ ∧ Ext w1 _ := by assumption
              all_goals go_wp2
              all_goals go_roundw
              all_goals first
                | (exact ⟨i + 1, by omega, by go_num, by rw [HS.out], hE1⟩)
                | (repeat apply Exists.intro
                   exact ⟨⟨i + 1, by omega, by go_num, by rw [HS.out], hE1⟩, rfl⟩)
                | (simp [intOf]; omega)
            · clear hbr
              have d0 : IntKind.i64.wrap (x + (i : Int)) = x + (i : Int) := by rw [IntKind.wrap_i64]; omega
              have d2 : IntKind.i64.wrap (y + (j : Int)) = y + (j : Int) := by rw [IntKind.wrap_i64]; omega
              have d3 : IntKind.i64.wrap (2 * (x + (i : Int))) = 2 * (x + (i : Int)) := by rw [IntKind.wrap_i64]; omega
              have d4 : IntKind.i64.wrap (2 * (y + (j : Int))) = 2 * (y + (j : Int)) := by rw [IntKind.wrap_i64]; omega
              have d5 : IntKind.i64.wrap (2 * (x + (i : Int)) + vx) = 2 * (x + (i : Int)) + vx := by rw [IntKind.wrap_i64]; omega
              have d6 : IntKind.i64.wrap (2 * (y + (j : Int)) + vy) = 2 * (y + (j : Int)) + vy := by rw [IntKind.wrap_i64]; omega
              have d7 : IntKind.i64.wrap ((j : Int) * 8) = (j : Int) * 8 := by rw [IntKind.wrap_i64]; omega
              obtain ⟨K, hK⟩ : ∃ K, K = j * 8 + i := ⟨_, rfl⟩
              have d8 : IntKind.i64.wrap ((j : Int) * 8 + (i : Int)) = (K : Int) := by rw [IntKind.wrap_i64]; omega
              have d9 : (0 : Int) ≤ (K : Int) := by omega
              have d10 : (K : Int) < 64 := by omega
              have HS : Hid (scF W H zs bs x y vx vy (j * 8 + (i + 1)) = c + 4 * max (halfV W H zs (2 * (x + (i : Int)) + vx) (2 * (y + (j : Int)) + vy) - bs.getD (j * 8 + i) 0) (bs.getD (j * 8 + i) 0 - halfV W H zs (2 * (x + (i : Int)) + vx) (2 * (y + (j : Int)) + vy))) := by show _ = _; rw [← Nat.add_assoc, scF_succ, mv_at W H zs x y vx vy j hit, hc]
              have A2 := Lib.hid (fun w h => A1.out w (2 * (x + (i : Int)) + vx) (2 * (y + (j : Int)) + vy) h (by omega) (by omega))
              have hcell := Lib.hid ((hb.ext (E1.trans hE)).at (get_of_lt (j := K) (by omega)))
              rw [← hK] at HS
              obtain ⟨z1, z2⟩ := halfV_in hm (2 * (x + (i : Int)) + vx) (2 * (y + (j : Int)) + vy)
              obtain ⟨z3, z4⟩ := hB K
              obtain ⟨c1, c2⟩ := scF_in (bs := bs) hm hv hB x y (j * 8 + i)
              rw [hc] at c1 c2
              have HKK := Lib.hid hK
              clear hK
              revert z1 z2 z3 z4 hcell HS A2
              generalize halfV W H zs (2 * (x + (i : Int)) + vx) (2 * (y + (j : Int)) + vy) = z
              generalize bs.getD K 0 = q
              intro HS A2 hcell z1 z2 z3 z4
              have s1 : IntKind.i64.wrap (z - q) = z - q := by rw [IntKind.wrap_i64]; omega
              have s2 : IntKind.i64.wrap (-(z - q)) = q - z := by rw [IntKind.wrap_i64]; omega
              have s3 : IntKind.i64.wrap (4 * max (z - q) (q - z)) = 4 * max (z - q) (q - z) := by rw [IntKind.wrap_i64]; omega
              have s4 : IntKind.i64.wrap (c + 4 * max (z - q) (q - z)) = c + 4 * max (z - q) (q - z) := by rw [IntKind.wrap_i64]; omega
              obtain ⟨p0, p1, p2, p3, p4, p5, -, -, -⟩ := SC.out.ext hE
              obtain ⟨o0, o1⟩ := GC.out.ext hE
              have p6 := hcell.out
              clear hcell
              go_wp2_with fail
              go_region_held3 (fun w' => w'.cell? ⟨b, 0, none⟩ = some (.int .i64 W) ∧ w'.cell? ⟨b, 1, none⟩ = some (.int .i64 H) ∧ w'.cell? ⟨b, 2, none⟩ = some (.slice a n cap) ∧ w'.cell? ⟨b, 3, none⟩ = some (.slice (some ⟨g2, off2, none⟩) 64 cap2) ∧ w'.cell? ⟨b, 4, none⟩ = some (.int .i64 x) ∧ w'.cell? ⟨b, 5, none⟩ = some (.int .i64 y) ∧ w'.cell? ⟨w.heap.size, 0, none⟩ = some (.int .i64 vx) ∧ w'.cell? ⟨w.heap.size, 1, none⟩ = some (.int .i64 vy) ∧ w'.cell? ⟨g2, off2 + K, none⟩ = some (.int .i64 q) ∧ Ext w1 w')
                (first | assumption | (exact ⟨p0, p1, p2, p3, p4, p5, o0, o1, p6, hE⟩) | (exact ⟨hE.drew.cell (SC.out.1), hE.drew.cell (SC.out.2.1), hE.drew.cell (SC.out.2.2.1), hE.drew.cell (SC.out.2.2.2.1), hE.drew.cell (SC.out.2.2.2.2.1), hE.drew.cell (SC.out.2.2.2.2.2.1), hE.drew.cell GC.out.1, hE.drew.cell GC.out.2, (Ext.refl _).drew.cell p6, hE.drew⟩) | (go_split_ands; exact ⟨hx.cell (by assumption), hx.cell (by assumption), hx.cell (by assumption), hx.cell (by assumption), hx.cell (by assumption), hx.cell (by assumption), hx.cell (by assumption), hx.cell (by assumption), hx.cell (by assumption), Ext.trans (by assumption) hx⟩))
                ((go_at_call 62; obtain ⟨_, _, _, _, _, _, _, _, _, hE1⟩ : _ ∧ _ ∧ _ ∧ _ ∧ _ ∧ _ ∧ _ ∧ _ ∧ _ ∧ Ext w1 _ := (by assumption); refine (A2.out _ (h.ext (E1.trans hE1))).mono ?_; rintro e w' ⟨rfl, hx⟩))
              all_goals obtain ⟨_, _, _, _, _, _, _, _, _, hE1⟩ : _ ∧ _ ∧ _ ∧ _ ∧ _ ∧ _ ∧ _ ∧ _ ∧ _ ∧ Ext w1 _ := by assumption
              all_goals go_wp2
              all_goals go_roundw
              all_goals first
                | (exact ⟨i + 1, by omega, by go_num, by rw [HS.out], hE1⟩)
                | (repeat apply Exists.intro
                   exact ⟨⟨i + 1, by omega, by go_num, by rw [HS.out], hE1⟩, rfl⟩)
                | (simp [intOf]; omega)
        · obtain rfl : i = 8 := by omega
          go_wp2
          go_roundw
          case rel => first | exact ⟨j + 1, by omega, by go_num, by rw [Nat.succ_mul], hE⟩ | ((repeat apply Exists.intro); exact ⟨⟨j + 1, by omega, by go_num, by rw [Nat.succ_mul], hE⟩, rfl⟩)
          case measure => simp [intOf]; omega
    · obtain rfl : j = 8 := by omega
      go_wp2
      rw [Exit.noGoto_ret]
      go_ret
      exact ⟨_, rfl, E1.trans hE, .inl rfl⟩
end Go.Proofs.YtaamnpbhmckpbaaDoor

/- The search of a vector: plain arithmetic. -/
namespace Go.Proofs.YtaamnpbhmckpbaaDoor
set_option linter.unusedVariables false
set_option linter.unusedSimpArgs false
open Go.RowKit Go.Extern.Stop Go.Stop Go.Extern

/-- a place of a window around f -/
def arV (f s : Int) (R m : Nat) : Int := f + s * ((m : Int) - (R : Int))
/-- one vector looked at: the best and what it costs -/
def arStep (C : Int → Int → Int) (st : Int × Int × Int) (vx vy : Int) : Int × Int × Int := if C vx vy < st.2.2 then (vx, vy, C vx vy) else st
def arS (C : Int → Int → Int) (fx fy s : Int) (R : Nat) (st : Int × Int × Int) : Nat → Int × Int × Int
  | 0 => st
  | k + 1 => arStep C (arS C fx fy s R st k) (arV fx s R (k % (2 * R + 1))) (arV fy s R (k / (2 * R + 1)))
theorem arS_at (C : Int → Int → Int) (fx fy s : Int) (R : Nat) (st : Int × Int × Int) (j i : Nat) (hi : i < 2 * R + 1) :
    arS C fx fy s R st (j * (2 * R + 1) + (i + 1)) = arStep C (arS C fx fy s R st (j * (2 * R + 1) + i)) (arV fx s R i) (arV fy s R j) := by
  have h1 : (j * (2 * R + 1) + i) % (2 * R + 1) = i := by rw [Nat.add_comm, Nat.add_mul_mod_self_right, Nat.mod_eq_of_lt hi]
  have h2 : (j * (2 * R + 1) + i) / (2 * R + 1) = j := by rw [Nat.add_comm, Nat.add_mul_div_right _ _ (by omega), Nat.div_eq_of_lt hi, Nat.zero_add]
  show arStep C _ (arV fx s R ((j * (2 * R + 1) + i) % (2 * R + 1))) (arV fy s R ((j * (2 * R + 1) + i) / (2 * R + 1))) = _
  rw [h1, h2]
  rfl
theorem arStep_stop {C : Int → Int → Int} (hC : ∀ x y, 0 ≤ C x y) {st : Int × Int × Int} (h : st.2.2 = 0) (vx vy : Int) : arStep C st vx vy = st := by
  unfold arStep
  have := hC vx vy
  rw [if_neg (by omega)]
theorem arS_stop {C : Int → Int → Int} (hC : ∀ x y, 0 ≤ C x y) {fx fy s : Int} {R : Nat} {st : Int × Int × Int} {k n : Nat} (h : (arS C fx fy s R st k).2.2 = 0) (hk : k ≤ n) : arS C fx fy s R st n = arS C fx fy s R st k := by
  obtain ⟨d, rfl⟩ := Nat.le.dest hk
  clear hk
  induction d with
  | zero => rfl
  | succ d ih =>
    show arStep C (arS C fx fy s R st (k + d)) _ _ = _
    rw [ih]
    exact arStep_stop hC h _ _
theorem arS_stop' {C : Int → Int → Int} {fx fy s : Int} {R : Nat} {st : Int × Int × Int} {k n : Nat} (hC : ∀ i j : Nat, i < 2 * R + 1 → j < 2 * R + 1 → 0 ≤ C (arV fx s R i) (arV fy s R j)) (h : (arS C fx fy s R st k).2.2 = 0) (hk : k ≤ n) (hn : n ≤ (2 * R + 1) * (2 * R + 1)) : arS C fx fy s R st n = arS C fx fy s R st k := by
  obtain ⟨d, rfl⟩ := Nat.le.dest hk
  clear hk
  induction d with
  | zero => rfl
  | succ d ih =>
    show arStep C (arS C fx fy s R st (k + d)) (arV fx s R ((k + d) % (2 * R + 1))) (arV fy s R ((k + d) / (2 * R + 1))) = _
    rw [ih (by omega)]
    unfold arStep
    have := hC ((k + d) % (2 * R + 1)) ((k + d) / (2 * R + 1)) (Nat.mod_lt _ (by omega)) (Nat.div_lt_of_lt_mul (by omega))
    rw [if_neg (by omega)]
theorem arStep_le (C : Int → Int → Int) (st : Int × Int × Int) (vx vy : Int) : (arStep C st vx vy).2.2 ≤ st.2.2 ∧ (arStep C st vx vy).2.2 ≤ C vx vy := by
  unfold arStep
  split
  · exact ⟨by show C vx vy ≤ _; omega, Int.le_refl _⟩
  · exact ⟨Int.le_refl _, by omega⟩
theorem arS_mono (C : Int → Int → Int) (fx fy s : Int) (R : Nat) (st : Int × Int × Int) (k d : Nat) : (arS C fx fy s R st (k + d)).2.2 ≤ (arS C fx fy s R st k).2.2 := by
  induction d with
  | zero => exact Int.le_refl _
  | succ d ih => exact Int.le_trans (arStep_le C _ _ _).1 ih
theorem arS_le (C : Int → Int → Int) (fx fy s : Int) (R : Nat) (st : Int × Int × Int) (k : Nat) : (arS C fx fy s R st k).2.2 ≤ st.2.2 := by
  have := arS_mono C fx fy s R st 0 k
  rwa [Nat.zero_add] at this
theorem arS_best (C : Int → Int → Int) (fx fy s : Int) (R : Nat) (st : Int × Int × Int) (j i n : Nat) (hi : i < 2 * R + 1) (hn : j * (2 * R + 1) + i < n) : (arS C fx fy s R st n).2.2 ≤ C (arV fx s R i) (arV fy s R j) := by
  obtain ⟨d, rfl⟩ := Nat.le.dest (show j * (2 * R + 1) + (i + 1) ≤ n by omega)
  refine Int.le_trans (arS_mono C fx fy s R st _ d) ?_
  rw [arS_at C fx fy s R st j i hi]
  exact (arStep_le C _ _ _).2
theorem arS_cost {C : Int → Int → Int} {fx fy s : Int} {R : Nat} {st : Int × Int × Int} (h : st.2.2 = C st.1 st.2.1) (k : Nat) : (arS C fx fy s R st k).2.2 = C (arS C fx fy s R st k).1 (arS C fx fy s R st k).2.1 := by
  induction k with
  | zero => exact h
  | succ k ih =>
    show (arStep C _ _ _).2.2 = C (arStep C _ _ _).1 (arStep C _ _ _).2.1
    unfold arStep
    split
    · rfl
    · exact ih
theorem arS_in (C : Int → Int → Int) {fx fy s : Int} {R : Nat} {st : Int × Int × Int} (P : Int → Int → Prop) (h : P st.1 st.2.1) (hP : ∀ i j : Nat, i < 2 * R + 1 → j < 2 * R + 1 → P (arV fx s R i) (arV fy s R j)) (k : Nat) (hk : k ≤ (2 * R + 1) * (2 * R + 1)) : P (arS C fx fy s R st k).1 (arS C fx fy s R st k).2.1 := by
  induction k with
  | zero => exact h
  | succ k ih =>
    show P (arStep C _ _ _).1 (arStep C _ _ _).2.1
    unfold arStep
    split
    · exact hP _ _ (Nat.mod_lt _ (by omega)) (Nat.div_lt_of_lt_mul (by omega))
    · exact ih (by omega)
/-- the best of the whole vectors; of the half ones around it -/
def sr1 (C : Int → Int → Int) (R : Nat) : Int × Int × Int := arS C 0 0 2 R (0, 0, C 0 0) ((2 * R + 1) * (2 * R + 1))
def sr2 (C : Int → Int → Int) (R : Nat) : Int × Int × Int := arS C (sr1 C R).1 (sr1 C R).2.1 1 1 (sr1 C R) 9
def inW (m x y : Int) : Prop := -m ≤ x ∧ x ≤ m ∧ -m ≤ y ∧ y ≤ m
theorem sr1_in (C : Int → Int → Int) (R : Nat) (k : Nat) (hk : k ≤ (2 * R + 1) * (2 * R + 1)) : inW (2 * R) (arS C 0 0 2 R (0, 0, C 0 0) k).1 (arS C 0 0 2 R (0, 0, C 0 0) k).2.1 := by
  refine arS_in C (inW (2 * R)) ?_ ?_ k hk
  · unfold inW; simp only []; omega
  · intro i j hi hj; unfold inW arV; omega
theorem sr2_in (C : Int → Int → Int) (R : Nat) (k : Nat) (hk : k ≤ 9) : inW (2 * R + 1) (arS C (sr1 C R).1 (sr1 C R).2.1 1 1 (sr1 C R) k).1 (arS C (sr1 C R).1 (sr1 C R).2.1 1 1 (sr1 C R) k).2.1 := by
  have h := sr1_in C R _ (Nat.le_refl _)
  change inW (2 * R) (sr1 C R).1 (sr1 C R).2.1 at h
  unfold inW at h
  refine arS_in C (inW (2 * R + 1)) ?_ ?_ k hk
  · unfold inW; omega
  · intro i j hi hj; unfold inW arV; omega
theorem sr1_cost (C : Int → Int → Int) (R : Nat) : (sr1 C R).2.2 = C (sr1 C R).1 (sr1 C R).2.1 := arS_cost rfl _
theorem sr2_cost (C : Int → Int → Int) (R : Nat) : (sr2 C R).2.2 = C (sr2 C R).1 (sr2 C R).2.1 := arS_cost (sr1_cost C R) _
theorem sr2_le (C : Int → Int → Int) (R : Nat) : (sr2 C R).2.2 ≤ (sr1 C R).2.2 := arS_le _ _ _ _ _ _ _
theorem sr2_zero (C : Int → Int → Int) (R : Nat) : (sr2 C R).2.2 ≤ C 0 0 := Int.le_trans (sr2_le C R) (arS_le C 0 0 2 R (0, 0, C 0 0) _)
theorem sr2_whole (C : Int → Int → Int) (R : Nat) (x y : Int) (h : inW R x y) : (sr2 C R).2.2 ≤ C (2 * x) (2 * y) := by
  unfold inW at h
  obtain ⟨i, hi⟩ : ∃ i : Nat, (i : Int) = x + R := ⟨(x + R).toNat, by omega⟩
  obtain ⟨j, hj⟩ : ∃ j : Nat, (j : Int) = y + R := ⟨(y + R).toNat, by omega⟩
  have hb := arS_best C 0 0 2 R (0, 0, C 0 0) j i ((2 * R + 1) * (2 * R + 1)) (by omega) (by
    have : (j + 1) * (2 * R + 1) ≤ (2 * R + 1) * (2 * R + 1) := Nat.mul_le_mul_right _ (by omega)
    rw [Nat.succ_mul] at this
    omega)
  rw [show arV 0 2 R i = 2 * x by unfold arV; omega, show arV 0 2 R j = 2 * y by unfold arV; omega] at hb
  exact Int.le_trans (sr2_le C R) hb
end Go.Proofs.YtaamnpbhmckpbaaDoor

/- A world in which all blocks but one stay. -/
namespace Go.Proofs.YtaamnpbhmckpbaaDoor
set_option linter.unusedVariables false
set_option linter.unusedSimpArgs false
open Go.RowKit Go.Extern.Stop Go.Stop Go.Extern

/-- all that was there stays, but for one block -/
def Kp (b : Nat) (w w' : World) : Prop := World.grownBy w w' (some b)
theorem Kp.refl (b : Nat) (w : World) : Kp b w w := ⟨rfl, rfl, rfl, Nat.le_refl _, fun _ _ _ => rfl⟩
theorem Kp.size {b : Nat} {w w' : World} (h : Kp b w w') : w.heap.size ≤ w'.heap.size := World.grownBy.size h
theorem Kp.block {b : Nat} {w w' : World} (h : Kp b w w') {k : Nat} (hk : k < w.heap.size) (hb : k ≠ b) : w'.heap[k]? = w.heap[k]? := World.grownBy.block h k hk (fun e => hb (Option.some.inj e))
theorem Kp.trans {b : Nat} {u v w : World} (h : Kp b u v) (k : Kp b v w) : Kp b u w :=
  ⟨(World.grownBy.os k).trans (World.grownBy.os h), (World.grownBy.tape k).trans (World.grownBy.tape h), (World.grownBy.output k).trans (World.grownBy.output h), Nat.le_trans h.size k.size, fun i hi hn => (World.grownBy.block k i (Nat.lt_of_lt_of_le hi h.size) hn).trans (World.grownBy.block h i hi hn)⟩
theorem Kp.of_ext {b : Nat} {w w' : World} (h : Ext w w') : Kp b w w' := ⟨Below.os h, Below.tape h, Below.output h, h.size, fun _ hi _ => h.block hi⟩
theorem Kp.ext {b : Nat} {u v w : World} (h : Kp b u v) (k : Ext v w) : Kp b u w := h.trans (Kp.of_ext k)
theorem Kp.set {b : Nat} {u v : World} (h : Kp b u v) (o : Nat) (x : Value) : Kp b u (v.setCell ⟨b, o, none⟩ x) :=
  h.trans ⟨rfl, rfl, rfl, by simp, fun i _ hn => Below.heap_setCell v ⟨b, o, none⟩ x i (fun e => hn (by rw [e]))⟩
theorem Kp.cell {b : Nat} {w w' : World} (h : Kp b w w') {p : Addr} {v : Value} (hp : w.cell? p = some v) (hb : p.block ≠ b) : w'.cell? p = some v :=
  (World.cell?_of_block (h.block (Ext.lt hp) hb)).trans hp
theorem Kp.frozen {b : Nat} {w w' : World} (h : Kp b w w') {p : Addr} (hp : p.block < w.heap.size) (hb : p.block ≠ b) : w'.frozen? p = w.frozen? p :=
  World.frozen?_of_block (h.block hp hb)
/-- what lay there before the block -/
theorem Kp.out {b : Nat} {u v w : World} (h : Ext u v) (k : Kp b v w) (hb : u.heap.size ≤ b) : Ext u w :=
  Below.trans (c := w) h ⟨World.grownBy.os k, World.grownBy.tape k, World.grownBy.output k, k.size, fun i hi => k.block (Nat.lt_of_lt_of_le hi h.size) (by omega)⟩
end Go.Proofs.YtaamnpbhmckpbaaDoor

/- (*motion.search).around: its contract over this seat's translation. -/
namespace Go.Proofs.YtaamnpbhmckpbaaDoor
set_option linter.unusedVariables false
set_option linter.unusedSimpArgs false
open Go.RowKit Go.Extern.Stop Go.Stop Go.Extern

/-- a search's nine cells, of which the last three may be written -/
def SrOwn (w : World) (b : Nat) (W H : Int) (u ub : Value) (x y bx by' l : Int) : Prop :=
  SrBox w b W H u ub x y bx by' l ∧ w.frozen? ⟨b, 6, none⟩ = false ∧ w.frozen? ⟨b, 7, none⟩ = false ∧ w.frozen? ⟨b, 8, none⟩ = false
theorem SrOwn.ext {w w' : World} {b : Nat} {W H : Int} {u ub : Value} {x y bx by' l : Int} (h : SrOwn w b W H u ub x y bx by' l) (k : Ext w w') : SrOwn w' b W H u ub x y bx by' l :=
  ⟨h.1.ext k, (Below.frozen (p := ⟨b, 6, none⟩) k (Ext.lt (p := ⟨b, 0, none⟩) h.1.1)).trans h.2.1, (Below.frozen (p := ⟨b, 7, none⟩) k (Ext.lt (p := ⟨b, 0, none⟩) h.1.1)).trans h.2.2.1, (Below.frozen (p := ⟨b, 8, none⟩) k (Ext.lt (p := ⟨b, 0, none⟩) h.1.1)).trans h.2.2.2⟩
theorem box_other (w : World) (b i j : Nat) (u : Value) (h : i ≠ j) : (w.setCell ⟨b, i, none⟩ u).cell? ⟨b, j, none⟩ = w.cell? ⟨b, j, none⟩ :=
  World.cell?_setCell_other w _ _ u (fun e => h (congrArg Addr.off e))
theorem SrOwn.set {w : World} {b : Nat} {W H : Int} {u ub : Value} {x y bx by' l : Int} (h : SrOwn w b W H u ub x y bx by' l) (bx2 by2 l2 : Int) :
    SrOwn (((w.setCell ⟨b, 6, none⟩ (.int .i64 bx2)).setCell ⟨b, 7, none⟩ (.int .i64 by2)).setCell ⟨b, 8, none⟩ (.int .i64 l2)) b W H u ub x y bx2 by2 l2 := by
  obtain ⟨⟨h0, h1, h2, h3, h4, h5, h6, h7, h8⟩, f6, f7, f8⟩ := h
  have o : ∀ j, j ≠ 6 → j ≠ 7 → j ≠ 8 → (((w.setCell ⟨b, 6, none⟩ (.int .i64 bx2)).setCell ⟨b, 7, none⟩ (.int .i64 by2)).setCell ⟨b, 8, none⟩ (.int .i64 l2)).cell? ⟨b, j, none⟩ = w.cell? ⟨b, j, none⟩ := fun j a6 a7 a8 =>
    (box_other _ b 8 j _ (Ne.symm a8)).trans ((box_other _ b 7 j _ (Ne.symm a7)).trans (box_other _ b 6 j _ (Ne.symm a6)))
  have e6 := World.cell?_setCell_same _ _ (.int .i64 bx2) h6
  have e7 := World.cell?_setCell_same _ _ (.int .i64 by2) ((box_other w b 6 7 (.int .i64 bx2) (by decide)).trans h7)
  have e8 := World.cell?_setCell_same _ _ (.int .i64 l2) ((box_other _ b 7 8 (.int .i64 by2) (by decide)).trans ((box_other w b 6 8 (.int .i64 bx2) (by decide)).trans h8))
  refine ⟨⟨(o 0 (by decide) (by decide) (by decide)).trans h0, (o 1 (by decide) (by decide) (by decide)).trans h1, (o 2 (by decide) (by decide) (by decide)).trans h2, (o 3 (by decide) (by decide) (by decide)).trans h3, (o 4 (by decide) (by decide) (by decide)).trans h4, (o 5 (by decide) (by decide) (by decide)).trans h5, ?_, ?_, e8⟩, by simpa using f6, by simpa using f7, by simpa using f8⟩
  · exact (box_other _ b 8 6 _ (by decide)).trans ((box_other _ b 7 6 _ (by decide)).trans e6)
  · exact (box_other _ b 8 7 _ (by decide)).trans e7
/-- what a vector costs in all -/
def scC (W H : Int) (zs bs : List Int) (x y vx vy : Int) : Int := scF W H zs bs x y vx vy 64
theorem VcBox.kp {w w' : World} {g b : Nat} {vx vy : Int} (h : VcBox w g vx vy) (k : Kp b w w') (hb : g ≠ b) : VcBox w' g vx vy := ⟨k.cell h.1 hb, k.cell h.2 hb⟩
theorem i64_eq {a b : Int} (h : a = b) : Value.int .i64 a = .int .i64 b := by rw [h]
set_option maxHeartbeats 8000000 in
set_option maxRecDepth 20000 in
theorem saround_any (W H x y bx by' l s : Int) (R : Nat) (zs bs : List Int) (a a2 : Option Addr) (n cap n2 cap2 b : Nat) (w : World) (hI : Hid (∀ w', Kp b w w' → Ints w' (.slice a n cap) zs)) (hJ : Hid (∀ w', Kp b w w' → Ints w' (.slice a2 n2 cap2) bs))
    (hS : SrOwn w b W H (.slice a n cap) (.slice a2 n2 cap2) x y bx by' l) (hm : may W H zs) (hx : 0 ≤ x ∧ x ≤ 32) (hy : 0 ≤ y ∧ y ≤ 32) (hN : bs.length = 64) (hB : ∀ k, 0 ≤ bs.getD k 0 ∧ bs.getD k 0 ≤ 255)
    (hv : Hid (∀ i j : Nat, i < 2 * R + 1 → j < 2 * R + 1 → vecB (arV bx s R i) (arV by' s R j) = true)) (hl : 0 ≤ l ∧ l ≤ 1000000) (hR : R ≤ 7) (hs : s = 1 ∨ s = 2) (hb : -15 ≤ bx ∧ bx ≤ 15 ∧ -15 ≤ by' ∧ by' ≤ 15) :
    Calls Tryd.prog 73 #[.pointer (some ⟨b, 0, none⟩), .int .i64 R, .int .i64 s] w fun e w' => e = .returned (.tuple #[]) ∧ Kp b w w' ∧ ∃ p q r, arS (scC W H zs bs x y) bx by' s R (bx, by', l) ((2 * R + 1) * (2 * R + 1)) = (p, q, r) ∧ SrOwn w' b W H (.slice a n cap) (.slice a2 n2 cap2) x y p q r := by
  have hbl : b < w.heap.size := Ext.lt hS.1.1
  have UC := Lib.hid (fun (vx vy l p q : Int) (w' : World) (h1 : Ints w' (.slice a n cap) zs) (h2 : Ints w' (.slice a2 n2 cap2) bs) (h3 : SrBox w' b W H (.slice a n cap) (.slice a2 n2 cap2) x y p q l) (h4 : vecB vx vy = true) => scost_any W H x y vx vy l p q l zs bs a a2 n cap n2 cap2 b w' h1 h2 h3 hm h4 hx hy hN hB)
  have HC0 : Hid (∀ vx vy, vecB vx vy = true → 0 ≤ scC W H zs bs x y vx vy ∧ scC W H zs bs x y vx vy ≤ 1000000) := fun vx vy h => by have := scF_in (bs := bs) hm h hB x y 64; unfold scC; omega
  have HS := Lib.hid hS
  have c6 := hS.1.2.2.2.2.2.2.1
  have c7 := hS.1.2.2.2.2.2.2.2.1
  have E0 : Ext w (w.alloc (.cells #[.int .i64 bx, .int .i64 by'] 69)) := (Ext.refl w).alloc _
  have G0 : VcBox (w.alloc (.cells #[.int .i64 bx, .int .i64 by'] 69)) w.heap.size bx by' := ⟨by simp, by simp⟩
  obtain ⟨b1, b2, b3, b4⟩ := hb
  obtain ⟨l1, l2⟩ := hl
  have n1 : IntKind.i64.wrap (-(R : Int)) = -(R : Int) := by rw [IntKind.wrap_i64]; omega
  clear hS hx hy hN hB
  go_enter Tryd.func73, Tryd.ntmps73
  go_wp2_with fail
  go_step3
  go_wp2_with fail
  revert E0 G0
  generalize w.alloc (.cells #[.int .i64 bx, .int .i64 by'] 69) = w0
  intro E0 G0
  go_step3
  go_wp2_with fail
  clear c6 c7
  go_loopw [7] (fun jv wr => ∃ (j : Nat) (p q r : Int), j ≤ 2 * R + 1 ∧ jv = .int .i64 ((j : Int) - (R : Int)) ∧ Hid (arS (scC W H zs bs x y) bx by' s R (bx, by', l) (j * (2 * R + 1)) = (p, q, r)) ∧ Hid (SrOwn wr b W H (.slice a n cap) (.slice a2 n2 cap2) x y p q r) ∧ Hid (VcBox wr w.heap.size bx by') ∧ Kp b w wr ∧ 0 ≤ r ∧ r ≤ 1000000) (fun jv _ => ((R : Int) + 1 - intOf jv).toNat)
  case atStart => exact ⟨0, bx, by', l, Nat.zero_le _, i64_eq (by omega), by show _ = _; rw [Nat.zero_mul]; rfl, HS.out.ext E0, G0, Kp.of_ext E0, l1, l2⟩
  case round =>
    clear E0 G0
    obtain ⟨j, p, q, r, hj, rfl, HA, SR, GR, HK, r1, r2⟩ := hrel
    by_cases hlt : j < 2 * R + 1
    · have t1 : (j : Int) - (R : Int) ≤ (R : Int) := by omega
      go_wp2_with fail
      go_loopw [8] (fun iv wr => ∃ (i : Nat) (p q r : Int), i ≤ 2 * R + 1 ∧ iv = .int .i64 ((i : Int) - (R : Int)) ∧ Hid (arS (scC W H zs bs x y) bx by' s R (bx, by', l) (j * (2 * R + 1) + i) = (p, q, r)) ∧ Hid (SrOwn wr b W H (.slice a n cap) (.slice a2 n2 cap2) x y p q r) ∧ Hid (VcBox wr w.heap.size bx by') ∧ Kp b w wr ∧ 0 ≤ r ∧ r ≤ 1000000) (fun iv _ => ((R : Int) + 1 - intOf iv).toNat)
      case atStart => exact ⟨0, p, q, r, Nat.zero_le _, i64_eq (by omega), HA.out, SR.out, GR.out, HK, r1, r2⟩
      case round =>
        clear HA SR GR HK r1 r2
        obtain ⟨i, p, q, r, hi, rfl, HA, SR, GR, HK, r1, r2⟩ := hrel
        by_cases hit : i < 2 * R + 1
        · have c8 := SR.out.1.2.2.2.2.2.2.2.2
          by_cases hz : r = 0
          · subst hz
            go_wp2_with fail
            rw [Exit.noGoto_normal]
            go_end0
            refine ⟨rfl, HK, p, q, 0, ?_, SR.out⟩
            have hst := arS_stop' (C := scC W H zs bs x y) (fx := bx) (fy := by') (s := s) (R := R) (st := (bx, by', l)) (k := j * (2 * R + 1) + i) (n := (2 * R + 1) * (2 * R + 1)) (fun i j hi hj => (HC0.out _ _ (hv.out i j hi hj)).1) (by rw [HA.out]) (by
              have : (j + 1) * (2 * R + 1) ≤ (2 * R + 1) * (2 * R + 1) := Nat.mul_le_mul_right _ hlt
              rw [Nat.succ_mul] at this
              omega) (Nat.le_refl _)
            rw [hst, HA.out]
          · have hz1 : (r == 0) = false := by simpa using hz
            clear hz
            obtain ⟨c0, c1⟩ := GR.out
            have HVX : Hid (arV bx s R i = bx + s * ((i : Int) - (R : Int))) := rfl
            have HVY : Hid (arV by' s R j = by' + s * ((j : Int) - (R : Int))) := rfl
            obtain ⟨m1, hm1⟩ : ∃ m1, s * ((i : Int) - (R : Int)) = m1 := ⟨_, rfl⟩
            obtain ⟨m2, hm2⟩ : ∃ m2, s * ((j : Int) - (R : Int)) = m2 := ⟨_, rfl⟩
            have k0 : -14 ≤ m1 ∧ m1 ≤ 14 ∧ -14 ≤ m2 ∧ m2 ≤ 14 := by rcases hs with rfl | rfl <;> omega
            obtain ⟨k1, k2, k3, k4⟩ := k0
            have e1 : IntKind.i64.wrap (s * ((i : Int) - (R : Int))) = m1 := by rw [hm1, IntKind.wrap_i64]; omega
            have e2 : IntKind.i64.wrap (s * ((j : Int) - (R : Int))) = m2 := by rw [hm2, IntKind.wrap_i64]; omega
            have hV := hv.out i j hit hlt
            rw [HVX.out, HVY.out, hm1, hm2] at hV
            obtain ⟨v1, v2, v3, v4⟩ := vecB_true hV
            have HV := Lib.hid hV
            obtain ⟨vx, hvx⟩ : ∃ vx, bx + m1 = vx := ⟨_, rfl⟩
            obtain ⟨vy, hvy⟩ : ∃ vy, by' + m2 = vy := ⟨_, rfl⟩
            have e3 : IntKind.i64.wrap (bx + m1) = vx := by rw [hvx, IntKind.wrap_i64]; omega
            have e4 : IntKind.i64.wrap (by' + m2) = vy := by rw [hvy, IntKind.wrap_i64]; omega
            have HS1 : Hid (arS (scC W H zs bs x y) bx by' s R (bx, by', l) (j * (2 * R + 1) + (i + 1)) = arStep (scC W H zs bs x y) (p, q, r) vx vy) := by
              show _ = _
              rw [arS_at _ _ _ _ _ _ _ _ hit, HA.out, HVX.out, HVY.out, hm1, hm2, hvx, hvy]
            have HV2 : Hid (vecB vx vy = true) := by show _ = _; rw [← hvx, ← hvy]; exact hV
            obtain ⟨F, hF⟩ : ∃ F, scC W H zs bs x y vx vy = F := ⟨_, rfl⟩
            obtain ⟨F1, F2⟩ := HC0.out _ _ HV2.out
            rw [hF] at F1 F2
            have HF := Lib.hid hF
            have hF6 : scF W H zs bs x y vx vy 64 = F := hF
            have UD : Hid (∀ w', Ext wr w' → Calls Tryd.prog 72 #[.pointer (some ⟨b, 0, none⟩), .agg #[.int .i64 vx, .int .i64 vy], .int .i64 r] w' fun e w'' => ∃ c, e = .returned (.int .i64 c) ∧ Ext w' w'' ∧ (c = F ∨ (0 ≤ r ∧ r ≤ c ∧ r ≤ F))) := fun w' hw => by
              have := UC.out vx vy r p q w' (hI.out _ (HK.ext hw)) (hJ.out _ (HK.ext hw)) (SR.out.1.ext hw) HV2.out
              rwa [hF6] at this
            clear hm1 hm2 hV hvx hvy hF HV hF6 v1 v2 v3 v4
            by_cases hc : F < r
            · have UA : Hid (∀ w', Ext wr w' → Calls Tryd.prog 72 #[.pointer (some ⟨b, 0, none⟩), .agg #[.int .i64 vx, .int .i64 vy], .int .i64 r] w' fun e w'' => e = .returned (.int .i64 F) ∧ Ext w' w'') := fun w' hw => (UD.out w' hw).mono fun e w'' ⟨c, h1, h2, h3⟩ => ⟨by rw [h1]; rcases h3 with h3 | h3; (rw [h3]); (exfalso; omega), h2⟩
              clear UD
              have E5 : Ext wr (wr.alloc (.cells #[.int .i64 vx, .int .i64 vy] 69)) := (Ext.refl wr).alloc _
              have G5 : VcBox (wr.alloc (.cells #[.int .i64 vx, .int .i64 vy] 69)) wr.heap.size vx vy := ⟨by simp, by simp⟩
              go_wp2_with fail
              revert E5 G5
              generalize wr.alloc (.cells #[.int .i64 vx, .int .i64 vy] 69) = w5
              intro E5 G5
              have SR5 := Lib.hid (SR.out.ext E5)
              have HE5 := Lib.hid E5
              obtain ⟨p0, p1⟩ := G5
              have p8 := SR5.out.1.2.2.2.2.2.2.2.2
              clear c0 c1 c8 E5
              go_region_held3 (fun w' => w'.cell? ⟨b, 8, none⟩ = some (.int .i64 r) ∧ w'.cell? ⟨wr.heap.size, 0, none⟩ = some (.int .i64 vx) ∧ w'.cell? ⟨wr.heap.size, 1, none⟩ = some (.int .i64 vy) ∧ Ext w5 w')
                (first | assumption | (exact ⟨p8, p0, p1, Ext.refl _⟩) | (exact ⟨p8, p0, p1, (Ext.refl _).drew⟩) | (exact ⟨(Ext.refl _).drew.cell p8, (Ext.refl _).drew.cell p0, (Ext.refl _).drew.cell p1, (Ext.refl _).drew⟩) | (go_split_ands; exact ⟨hx.cell (by assumption), hx.cell (by assumption), hx.cell (by assumption), Ext.trans (by assumption) hx⟩))
                ((go_at_call 72; obtain ⟨_, _, _, hE1⟩ : _ ∧ _ ∧ _ ∧ Ext w5 _ := (by assumption); refine (UA.out _ (HE5.out.trans hE1)).mono ?_; rintro e w' ⟨rfl, hx⟩))
              all_goals obtain ⟨g8, g0, g1, hE1⟩ : _ ∧ _ ∧ _ ∧ Ext w5 _ := by assumption
              all_goals have SR6 := Lib.hid (SR5.out.ext hE1)
              all_goals obtain ⟨⟨-, -, -, -, -, -, y6, y7, -⟩, f6, f7, f8⟩ := SR6.out
              all_goals go_wp2
              all_goals go_roundw
              all_goals first
                | (exact ⟨i + 1, vx, vy, F, by omega, i64_eq (by omega), by show _ = _; rw [HS1.out]; unfold arStep; rw [HF.out, if_pos hc], SR6.out.set vx vy F, GR.out.kp (((((Kp.of_ext HE5.out).ext hE1).set 6 _).set 7 _).set 8 _) (by omega), ((((HK.ext HE5.out).ext hE1).set 6 _).set 7 _).set 8 _, F1, F2⟩)
                | (simp [intOf]; omega)
            · have UB : Hid (∀ w', Ext wr w' → Calls Tryd.prog 72 #[.pointer (some ⟨b, 0, none⟩), .agg #[.int .i64 vx, .int .i64 vy], .int .i64 r] w' fun e w'' => ∃ c, e = .returned (.int .i64 c) ∧ Ext w' w'' ∧ ¬ c < r) := fun w' hw => (UD.out w' hw).mono fun e w'' ⟨c, h1, h2, h3⟩ => ⟨c, h1, h2, by omega⟩
              clear UD
              have E5 : Ext wr (wr.alloc (.cells #[.int .i64 vx, .int .i64 vy] 69)) := (Ext.refl wr).alloc _
              have G5 : VcBox (wr.alloc (.cells #[.int .i64 vx, .int .i64 vy] 69)) wr.heap.size vx vy := ⟨by simp, by simp⟩
              go_wp2_with fail
              revert E5 G5
              generalize wr.alloc (.cells #[.int .i64 vx, .int .i64 vy] 69) = w5
              intro E5 G5
              have SR5 := Lib.hid (SR.out.ext E5)
              have HE5 := Lib.hid E5
              obtain ⟨p0, p1⟩ := G5
              have p8 := SR5.out.1.2.2.2.2.2.2.2.2
              clear c0 c1 c8 E5
              go_region_held3 (fun w' => w'.cell? ⟨b, 8, none⟩ = some (.int .i64 r) ∧ w'.cell? ⟨wr.heap.size, 0, none⟩ = some (.int .i64 vx) ∧ w'.cell? ⟨wr.heap.size, 1, none⟩ = some (.int .i64 vy) ∧ Ext w5 w')
                (first | assumption | (exact ⟨p8, p0, p1, Ext.refl _⟩) | (exact ⟨p8, p0, p1, (Ext.refl _).drew⟩) | (exact ⟨(Ext.refl _).drew.cell p8, (Ext.refl _).drew.cell p0, (Ext.refl _).drew.cell p1, (Ext.refl _).drew⟩) | (go_split_ands; exact ⟨hx.cell (by assumption), hx.cell (by assumption), hx.cell (by assumption), Ext.trans (by assumption) hx⟩))
                ((go_at_call 72; obtain ⟨_, _, _, hE1⟩ : _ ∧ _ ∧ _ ∧ Ext w5 _ := (by assumption); refine (UB.out _ (HE5.out.trans hE1)).mono ?_; rintro e w' ⟨c, rfl, hx, hcc⟩))
              all_goals obtain ⟨g8, g0, g1, hE1⟩ : _ ∧ _ ∧ _ ∧ Ext w5 _ := by assumption
              all_goals have SR6 := Lib.hid (SR5.out.ext hE1)
              all_goals go_wp2
              all_goals go_roundw
              case rel => exact ⟨i + 1, p, q, r, by omega, i64_eq (by omega), by show _ = _; rw [HS1.out]; unfold arStep; rw [HF.out, if_neg (show ¬ F < r by omega)], SR6.out, (GR.out.ext HE5.out).ext hE1, (HK.ext HE5.out).ext hE1, r1, r2⟩
              case measure => simp [intOf]; omega
        · obtain rfl : i = 2 * R + 1 := by omega
          go_wp2
          go_roundw
          case rel => first | exact ⟨j + 1, p, q, r, by omega, i64_eq (by omega), by show _ = _; rw [Nat.succ_mul]; exact HA.out, SR.out, GR.out, HK, r1, r2⟩ | ((repeat apply Exists.intro); exact ⟨⟨j + 1, p, q, r, by omega, i64_eq (by omega), by show _ = _; rw [Nat.succ_mul]; exact HA.out, SR.out, GR.out, HK, r1, r2⟩, rfl⟩)
          case measure => simp [intOf]; omega
    · obtain rfl : j = 2 * R + 1 := by omega
      go_wp2
      rw [Exit.noGoto_normal]
      go_end0
      exact ⟨rfl, HK, p, q, r, HA.out, SR.out⟩
end Go.Proofs.YtaamnpbhmckpbaaDoor

/- motion.Search: its contract over this seat's translation. -/
namespace Go.Proofs.YtaamnpbhmckpbaaDoor
set_option linter.unusedVariables false
set_option linter.unusedSimpArgs false
open Go.RowKit Go.Extern.Stop Go.Stop Go.Extern

/-- a vector in a variable of the call's own, that may be written -/
def VecAt (w : World) (b : Nat) : Prop := VcBox w b 0 0 ∧ w.frozen? ⟨b, 0, none⟩ = false ∧ w.frozen? ⟨b, 1, none⟩ = false
theorem VecAt.ext {w w' : World} {b : Nat} (h : VecAt w b) (k : Ext w w') : VecAt w' b :=
  ⟨h.1.ext k, (Below.frozen (p := ⟨b, 0, none⟩) k (Ext.lt (p := ⟨b, 0, none⟩) h.1.1)).trans h.2.1, (Below.frozen (p := ⟨b, 1, none⟩) k (Ext.lt (p := ⟨b, 0, none⟩) h.1.1)).trans h.2.2⟩
theorem VecAt.kp {w w' : World} {b g : Nat} (h : VecAt w b) (k : Kp g w w') (hb : b ≠ g) : VecAt w' b :=
  ⟨h.1.kp k hb, (k.frozen (p := ⟨b, 0, none⟩) (Ext.lt (p := ⟨b, 0, none⟩) h.1.1) hb).trans h.2.1, (k.frozen (p := ⟨b, 1, none⟩) (Ext.lt (p := ⟨b, 0, none⟩) h.1.1) hb).trans h.2.2⟩
theorem VecAt.set {w : World} {b : Nat} (h : VecAt w b) (X Y : Int) : VcBox ((w.setCell ⟨b, 0, none⟩ (.int .i64 X)).setCell ⟨b, 1, none⟩ (.int .i64 Y)) b X Y := by
  obtain ⟨⟨h0, h1⟩, -, -⟩ := h
  have e0 := World.cell?_setCell_same _ _ (.int .i64 X) h0
  have e1 := World.cell?_setCell_same _ _ (.int .i64 Y) ((box_other w b 0 1 (.int .i64 X) (by decide)).trans h1)
  exact ⟨(box_other _ b 1 0 _ (by decide)).trans e0, e1⟩
theorem VecAt.new (w : World) (W H : Int) (u : Value) : FrBox ((w.alloc (.cells #[.int .i64 W, .int .i64 H, u] 67)).alloc (.cells #[.int .i64 0, .int .i64 0] 69)) w.heap.size W H u ∧ VecAt ((w.alloc (.cells #[.int .i64 W, .int .i64 H, u] 67)).alloc (.cells #[.int .i64 0, .int .i64 0] 69)) (w.heap.size + 1) :=
  ⟨⟨by simp, by simp, by simp⟩, ⟨by simp, by simp⟩, by simp, by simp⟩
def rngOk (W H x y reach : Int) : Prop := (0 ≤ reach ∧ reach ≤ 7) ∧ (0 ≤ x ∧ x ≤ W - 8) ∧ 0 ≤ y ∧ y ≤ H - 8
instance (W H x y reach : Int) : Decidable (rngOk W H x y reach) := by unfold rngOk; infer_instance
/-- why there is no vector -/
def srE (W H : Int) (zs bs : List Int) (x y reach : Int) : Fall :=
  if may W H zs then (if rngOk W H x y reach then (if bs.length = 64 then (if bs.any nosmpB = true then range else none) else fit) else range) else form
/-- the vector -/
def srX (W H : Int) (zs bs : List Int) (x y reach : Int) : Int := match srE W H zs bs x y reach with
  | none => (sr2 (fun vx vy => scF W H zs bs x y vx vy 64) reach.toNat).1
  | some _ => 0
def srY (W H : Int) (zs bs : List Int) (x y reach : Int) : Int := match srE W H zs bs x y reach with
  | none => (sr2 (fun vx vy => scF W H zs bs x y vx vy 64) reach.toNat).2.1
  | some _ => 0
def VPost (w : World) (X Y : Int) (f : Fall) (e : Ending) (w' : World) : Prop := ∃ x, e = .returned (.tuple #[.agg #[.int .i64 X, .int .i64 Y], x]) ∧ Ext w w' ∧ ErrIs w' f x
theorem smp_of_any {bs : List Int} (h : bs.any nosmpB = false) (k : Nat) : 0 ≤ bs.getD k 0 ∧ bs.getD k 0 ≤ 255 := by
  rw [List.getD]
  cases hk : bs[k]? with
  | none => show (0 : Int) ≤ 0 ∧ (0 : Int) ≤ 255; omega
  | some x =>
    show 0 ≤ x ∧ x ≤ 255
    have hx := List.mem_of_getElem? hk
    have : nosmpB x = false := by
      cases hn : nosmpB x with
      | false => rfl
      | true => rw [List.any_eq_true.2 ⟨x, hx, hn⟩] at h; cases h
    unfold nosmpB at this
    simp at this
    omega
theorem SrOwn.setl {w : World} {b : Nat} {W H : Int} {u ub : Value} {x y bx by' l : Int} (h : SrOwn w b W H u ub x y bx by' l) (l2 : Int) :
    SrOwn (w.setCell ⟨b, 8, none⟩ (.int .i64 l2)) b W H u ub x y bx by' l2 := by
  obtain ⟨⟨h0, h1, h2, h3, h4, h5, h6, h7, h8⟩, f6, f7, f8⟩ := h
  have o : ∀ j, j ≠ 8 → (w.setCell ⟨b, 8, none⟩ (.int .i64 l2)).cell? ⟨b, j, none⟩ = w.cell? ⟨b, j, none⟩ := fun j a8 => box_other _ b 8 j _ (Ne.symm a8)
  exact ⟨⟨(o 0 (by decide)).trans h0, (o 1 (by decide)).trans h1, (o 2 (by decide)).trans h2, (o 3 (by decide)).trans h3, (o 4 (by decide)).trans h4, (o 5 (by decide)).trans h5, (o 6 (by decide)).trans h6, (o 7 (by decide)).trans h7, World.cell?_setCell_same _ _ (.int .i64 l2) h8⟩, by simpa using f6, by simpa using f7, by simpa using f8⟩
theorem SrOwn.new (w : World) (W H : Int) (u ub : Value) (x y : Int) : SrOwn (w.alloc (.cells #[.int .i64 W, .int .i64 H, u, ub, .int .i64 x, .int .i64 y, .int .i64 0, .int .i64 0, .int .i64 0] 111)) w.heap.size W H u ub x y 0 0 0 :=
  ⟨⟨by simp, by simp, by simp, by simp, by simp, by simp, by simp, by simp, by simp⟩, by simp, by simp, by simp⟩
set_option maxHeartbeats 8000000 in
set_option maxRecDepth 20000 in
theorem search_no (W H x y reach : Int) (zs bs : List Int) (a a2 : Option Addr) (n cap n2 cap2 : Nat) (w : World) (h : Ints w (.slice a n cap) zs) (hb : Ints w (.slice a2 n2 cap2) bs) (ho : ¬ (may W H zs ∧ rngOk W H x y reach)) :
    Calls Tryd.prog 48 #[.agg #[.int .i64 W, .int .i64 H, .slice a n cap], .slice a2 n2 cap2, .int .i64 x, .int .i64 y, .int .i64 reach] w (VPost w (srX W H zs bs x y reach) (srY W H zs bs x y reach) (srE W H zs bs x y reach)) := by
  have M1 := Lib.hid (fun w h => may_any W H zs a n cap w h)
  by_cases h1 : may W H zs
  · have H1 := Lib.hid h1
    have hr : ¬ rngOk W H x y reach := fun k => ho ⟨h1, k⟩
    have hW := sideB_true h1.1
    have hH := sideB_true h1.2.1
    have d1 : IntKind.i64.wrap (W - 8) = W - 8 := by rw [IntKind.wrap_i64]; omega
    have d2 : IntKind.i64.wrap (H - 8) = H - 8 := by rw [IntKind.wrap_i64]; omega
    obtain ⟨hW1, hW2, -⟩ := hW
    obtain ⟨hH1, hH2, -⟩ := hH
    unfold rngOk at hr
    clear ho h1
    by_cases c1 : reach < 0
    · clear hr
      have HR : Hid (srE W H zs bs x y reach = range) := by show _ = _; unfold srE; rw [if_pos H1.out, if_neg (by unfold rngOk; omega)]
      have HX : Hid (srX W H zs bs x y reach = 0 ∧ srY W H zs bs x y reach = 0) := by unfold srX srY; rw [HR.out]; exact ⟨rfl, rfl⟩
      obtain ⟨F0, V0⟩ := VecAt.new w W H (.slice a n cap)
      have E0 : Ext w ((w.alloc (.cells #[.int .i64 W, .int .i64 H, .slice a n cap] 67)).alloc (.cells #[.int .i64 0, .int .i64 0] 69)) := (by repeat (first | exact Ext.refl _ | assumption | refine Ext.alloc ?_ _ | refine Ext.drew ?_ | refine Ext.drewN ?_ _ | refine Ext.setCell ?_ (by first | exact Nat.le_refl _ | (simp; done) | omega) _ | refine Ext.trans ?_ (by assumption)))
      go_enter Tryd.func48, Tryd.ntmps48
      go_wp2_with fail
      revert F0 V0 E0
      generalize (w.alloc (.cells #[.int .i64 W, .int .i64 H, .slice a n cap] 67)).alloc (.cells #[.int .i64 0, .int .i64 0] 69) = w0
      intro F0 V0 E0
      have FB := Lib.hid F0
      have VB := Lib.hid V0
      clear F0 V0
      refine (M1.out _ (h.ext E0)).mono ?_; rintro e w1 ⟨rfl, hx1⟩
      have E1 := E0.trans hx1
      have F1 := Lib.hid (FB.out.ext hx1)
      have V1 := Lib.hid (VB.out.ext hx1)
      obtain ⟨p0, p1, p2⟩ := F1.out
      obtain ⟨⟨q0, q1⟩, q2, q3⟩ := V1.out
      clear hx1 E0 FB VB
      rw [decide_eq_true H1.out]
      go_wp2
      obtain ⟨e0, e1⟩ := V1.out.set 0 0
      exact bodyPost_ret (v := .tuple #[.agg #[.int .i64 0, .int .i64 0], .iface 36 (.int .i64 3)]) (by simp [results, Tryd.results48, go_sem, e0, e1]) rfl ⟨_, by rw [HX.out.1, HX.out.2], (E1.setCell (p := ⟨w.heap.size + 1, 0, none⟩) (Nat.le_succ _) _).setCell (p := ⟨w.heap.size + 1, 1, none⟩) (Nat.le_succ _) _, by rw [HR.out]; exact ErrIs.code (by decide)⟩
    · by_cases c2 : 7 < reach
      · clear hr
        have HR : Hid (srE W H zs bs x y reach = range) := by show _ = _; unfold srE; rw [if_pos H1.out, if_neg (by unfold rngOk; omega)]
        have HX : Hid (srX W H zs bs x y reach = 0 ∧ srY W H zs bs x y reach = 0) := by unfold srX srY; rw [HR.out]; exact ⟨rfl, rfl⟩
        obtain ⟨F0, V0⟩ := VecAt.new w W H (.slice a n cap)
        have E0 : Ext w ((w.alloc (.cells #[.int .i64 W, .int .i64 H, .slice a n cap] 67)).alloc (.cells #[.int .i64 0, .int .i64 0] 69)) := (by repeat (first | exact Ext.refl _ | assumption | refine Ext.alloc ?_ _ | refine Ext.drew ?_ | refine Ext.drewN ?_ _ | refine Ext.setCell ?_ (by first | exact Nat.le_refl _ | (simp; done) | omega) _ | refine Ext.trans ?_ (by assumption)))
        go_enter Tryd.func48, Tryd.ntmps48
        go_wp2_with fail
        revert F0 V0 E0
        generalize (w.alloc (.cells #[.int .i64 W, .int .i64 H, .slice a n cap] 67)).alloc (.cells #[.int .i64 0, .int .i64 0] 69) = w0
        intro F0 V0 E0
        have FB := Lib.hid F0
        have VB := Lib.hid V0
        clear F0 V0
        refine (M1.out _ (h.ext E0)).mono ?_; rintro e w1 ⟨rfl, hx1⟩
        have E1 := E0.trans hx1
        have F1 := Lib.hid (FB.out.ext hx1)
        have V1 := Lib.hid (VB.out.ext hx1)
        obtain ⟨p0, p1, p2⟩ := F1.out
        obtain ⟨⟨q0, q1⟩, q2, q3⟩ := V1.out
        clear hx1 E0 FB VB
        rw [decide_eq_true H1.out]
        go_wp2
        obtain ⟨e0, e1⟩ := V1.out.set 0 0
        exact bodyPost_ret (v := .tuple #[.agg #[.int .i64 0, .int .i64 0], .iface 36 (.int .i64 3)]) (by simp [results, Tryd.results48, go_sem, e0, e1]) rfl ⟨_, by rw [HX.out.1, HX.out.2], (E1.setCell (p := ⟨w.heap.size + 1, 0, none⟩) (Nat.le_succ _) _).setCell (p := ⟨w.heap.size + 1, 1, none⟩) (Nat.le_succ _) _, by rw [HR.out]; exact ErrIs.code (by decide)⟩
      · by_cases c3 : x < 0
        · clear hr
          have HR : Hid (srE W H zs bs x y reach = range) := by show _ = _; unfold srE; rw [if_pos H1.out, if_neg (by unfold rngOk; omega)]
          have HX : Hid (srX W H zs bs x y reach = 0 ∧ srY W H zs bs x y reach = 0) := by unfold srX srY; rw [HR.out]; exact ⟨rfl, rfl⟩
          obtain ⟨F0, V0⟩ := VecAt.new w W H (.slice a n cap)
          have E0 : Ext w ((w.alloc (.cells #[.int .i64 W, .int .i64 H, .slice a n cap] 67)).alloc (.cells #[.int .i64 0, .int .i64 0] 69)) := (by repeat (first | exact Ext.refl _ | assumption | refine Ext.alloc ?_ _ | refine Ext.drew ?_ | refine Ext.drewN ?_ _ | refine Ext.setCell ?_ (by first | exact Nat.le_refl _ | (simp; done) | omega) _ | refine Ext.trans ?_ (by assumption)))
          go_enter Tryd.func48, Tryd.ntmps48
          go_wp2_with fail
          revert F0 V0 E0
          generalize (w.alloc (.cells #[.int .i64 W, .int .i64 H, .slice a n cap] 67)).alloc (.cells #[.int .i64 0, .int .i64 0] 69) = w0
          intro F0 V0 E0
          have FB := Lib.hid F0
          have VB := Lib.hid V0
          clear F0 V0
          refine (M1.out _ (h.ext E0)).mono ?_; rintro e w1 ⟨rfl, hx1⟩
          have E1 := E0.trans hx1
          have F1 := Lib.hid (FB.out.ext hx1)
          have V1 := Lib.hid (VB.out.ext hx1)
          obtain ⟨p0, p1, p2⟩ := F1.out
          obtain ⟨⟨q0, q1⟩, q2, q3⟩ := V1.out
          clear hx1 E0 FB VB
          rw [decide_eq_true H1.out]
          go_wp2
          obtain ⟨e0, e1⟩ := V1.out.set 0 0
          exact bodyPost_ret (v := .tuple #[.agg #[.int .i64 0, .int .i64 0], .iface 36 (.int .i64 3)]) (by simp [results, Tryd.results48, go_sem, e0, e1]) rfl ⟨_, by rw [HX.out.1, HX.out.2], (E1.setCell (p := ⟨w.heap.size + 1, 0, none⟩) (Nat.le_succ _) _).setCell (p := ⟨w.heap.size + 1, 1, none⟩) (Nat.le_succ _) _, by rw [HR.out]; exact ErrIs.code (by decide)⟩
        · by_cases c4 : W - 8 < x
          · clear hr
            have HR : Hid (srE W H zs bs x y reach = range) := by show _ = _; unfold srE; rw [if_pos H1.out, if_neg (by unfold rngOk; omega)]
            have HX : Hid (srX W H zs bs x y reach = 0 ∧ srY W H zs bs x y reach = 0) := by unfold srX srY; rw [HR.out]; exact ⟨rfl, rfl⟩
            obtain ⟨F0, V0⟩ := VecAt.new w W H (.slice a n cap)
            have E0 : Ext w ((w.alloc (.cells #[.int .i64 W, .int .i64 H, .slice a n cap] 67)).alloc (.cells #[.int .i64 0, .int .i64 0] 69)) := (by repeat (first | exact Ext.refl _ | assumption | refine Ext.alloc ?_ _ | refine Ext.drew ?_ | refine Ext.drewN ?_ _ | refine Ext.setCell ?_ (by first | exact Nat.le_refl _ | (simp; done) | omega) _ | refine Ext.trans ?_ (by assumption)))
            go_enter Tryd.func48, Tryd.ntmps48
            go_wp2_with fail
            revert F0 V0 E0
            generalize (w.alloc (.cells #[.int .i64 W, .int .i64 H, .slice a n cap] 67)).alloc (.cells #[.int .i64 0, .int .i64 0] 69) = w0
            intro F0 V0 E0
            have FB := Lib.hid F0
            have VB := Lib.hid V0
            clear F0 V0
            refine (M1.out _ (h.ext E0)).mono ?_; rintro e w1 ⟨rfl, hx1⟩
            have E1 := E0.trans hx1
            have F1 := Lib.hid (FB.out.ext hx1)
            have V1 := Lib.hid (VB.out.ext hx1)
            obtain ⟨p0, p1, p2⟩ := F1.out
            obtain ⟨⟨q0, q1⟩, q2, q3⟩ := V1.out
            clear hx1 E0 FB VB
            rw [decide_eq_true H1.out]
            go_wp2
            obtain ⟨e0, e1⟩ := V1.out.set 0 0
            exact bodyPost_ret (v := .tuple #[.agg #[.int .i64 0, .int .i64 0], .iface 36 (.int .i64 3)]) (by simp [results, Tryd.results48, go_sem, e0, e1]) rfl ⟨_, by rw [HX.out.1, HX.out.2], (E1.setCell (p := ⟨w.heap.size + 1, 0, none⟩) (Nat.le_succ _) _).setCell (p := ⟨w.heap.size + 1, 1, none⟩) (Nat.le_succ _) _, by rw [HR.out]; exact ErrIs.code (by decide)⟩
          · by_cases c5 : y < 0
            · clear hr
              have HR : Hid (srE W H zs bs x y reach = range) := by show _ = _; unfold srE; rw [if_pos H1.out, if_neg (by unfold rngOk; omega)]
              have HX : Hid (srX W H zs bs x y reach = 0 ∧ srY W H zs bs x y reach = 0) := by unfold srX srY; rw [HR.out]; exact ⟨rfl, rfl⟩
              obtain ⟨F0, V0⟩ := VecAt.new w W H (.slice a n cap)
              have E0 : Ext w ((w.alloc (.cells #[.int .i64 W, .int .i64 H, .slice a n cap] 67)).alloc (.cells #[.int .i64 0, .int .i64 0] 69)) := (by repeat (first | exact Ext.refl _ | assumption | refine Ext.alloc ?_ _ | refine Ext.drew ?_ | refine Ext.drewN ?_ _ | refine Ext.setCell ?_ (by first | exact Nat.le_refl _ | (simp; done) | omega) _ | refine Ext.trans ?_ (by assumption)))
              go_enter Tryd.func48, Tryd.ntmps48
              go_wp2_with fail
              revert F0 V0 E0
              generalize (w.alloc (.cells #[.int .i64 W, .int .i64 H, .slice a n cap] 67)).alloc (.cells #[.int .i64 0, .int .i64 0] 69) = w0
              intro F0 V0 E0
              have FB := Lib.hid F0
              have VB := Lib.hid V0
              clear F0 V0
              refine (M1.out _ (h.ext E0)).mono ?_; rintro e w1 ⟨rfl, hx1⟩
              have E1 := E0.trans hx1
              have F1 := Lib.hid (FB.out.ext hx1)
              have V1 := Lib.hid (VB.out.ext hx1)
              obtain ⟨p0, p1, p2⟩ := F1.out
              obtain ⟨⟨q0, q1⟩, q2, q3⟩ := V1.out
              clear hx1 E0 FB VB
              rw [decide_eq_true H1.out]
              go_wp2
              obtain ⟨e0, e1⟩ := V1.out.set 0 0
              exact bodyPost_ret (v := .tuple #[.agg #[.int .i64 0, .int .i64 0], .iface 36 (.int .i64 3)]) (by simp [results, Tryd.results48, go_sem, e0, e1]) rfl ⟨_, by rw [HX.out.1, HX.out.2], (E1.setCell (p := ⟨w.heap.size + 1, 0, none⟩) (Nat.le_succ _) _).setCell (p := ⟨w.heap.size + 1, 1, none⟩) (Nat.le_succ _) _, by rw [HR.out]; exact ErrIs.code (by decide)⟩
            · have c6 : H - 8 < y := by omega
              clear hr
              have HR : Hid (srE W H zs bs x y reach = range) := by show _ = _; unfold srE; rw [if_pos H1.out, if_neg (by unfold rngOk; omega)]
              have HX : Hid (srX W H zs bs x y reach = 0 ∧ srY W H zs bs x y reach = 0) := by unfold srX srY; rw [HR.out]; exact ⟨rfl, rfl⟩
              obtain ⟨F0, V0⟩ := VecAt.new w W H (.slice a n cap)
              have E0 : Ext w ((w.alloc (.cells #[.int .i64 W, .int .i64 H, .slice a n cap] 67)).alloc (.cells #[.int .i64 0, .int .i64 0] 69)) := (by repeat (first | exact Ext.refl _ | assumption | refine Ext.alloc ?_ _ | refine Ext.drew ?_ | refine Ext.drewN ?_ _ | refine Ext.setCell ?_ (by first | exact Nat.le_refl _ | (simp; done) | omega) _ | refine Ext.trans ?_ (by assumption)))
              go_enter Tryd.func48, Tryd.ntmps48
              go_wp2_with fail
              revert F0 V0 E0
              generalize (w.alloc (.cells #[.int .i64 W, .int .i64 H, .slice a n cap] 67)).alloc (.cells #[.int .i64 0, .int .i64 0] 69) = w0
              intro F0 V0 E0
              have FB := Lib.hid F0
              have VB := Lib.hid V0
              clear F0 V0
              refine (M1.out _ (h.ext E0)).mono ?_; rintro e w1 ⟨rfl, hx1⟩
              have E1 := E0.trans hx1
              have F1 := Lib.hid (FB.out.ext hx1)
              have V1 := Lib.hid (VB.out.ext hx1)
              obtain ⟨p0, p1, p2⟩ := F1.out
              obtain ⟨⟨q0, q1⟩, q2, q3⟩ := V1.out
              clear hx1 E0 FB VB
              rw [decide_eq_true H1.out]
              go_wp2
              obtain ⟨e0, e1⟩ := V1.out.set 0 0
              exact bodyPost_ret (v := .tuple #[.agg #[.int .i64 0, .int .i64 0], .iface 36 (.int .i64 3)]) (by simp [results, Tryd.results48, go_sem, e0, e1]) rfl ⟨_, by rw [HX.out.1, HX.out.2], (E1.setCell (p := ⟨w.heap.size + 1, 0, none⟩) (Nat.le_succ _) _).setCell (p := ⟨w.heap.size + 1, 1, none⟩) (Nat.le_succ _) _, by rw [HR.out]; exact ErrIs.code (by decide)⟩
  · have H1 := Lib.hid h1
    have HR : Hid (srE W H zs bs x y reach = form) := by show _ = _; unfold srE; rw [if_neg h1]
    have HX : Hid (srX W H zs bs x y reach = 0 ∧ srY W H zs bs x y reach = 0) := by unfold srX srY; rw [HR.out]; exact ⟨rfl, rfl⟩
    clear ho h1
    obtain ⟨F0, V0⟩ := VecAt.new w W H (.slice a n cap)
    have E0 : Ext w ((w.alloc (.cells #[.int .i64 W, .int .i64 H, .slice a n cap] 67)).alloc (.cells #[.int .i64 0, .int .i64 0] 69)) := (by repeat (first | exact Ext.refl _ | assumption | refine Ext.alloc ?_ _ | refine Ext.drew ?_ | refine Ext.drewN ?_ _ | refine Ext.setCell ?_ (by first | exact Nat.le_refl _ | (simp; done) | omega) _ | refine Ext.trans ?_ (by assumption)))
    go_enter Tryd.func48, Tryd.ntmps48
    go_wp2_with fail
    revert F0 V0 E0
    generalize (w.alloc (.cells #[.int .i64 W, .int .i64 H, .slice a n cap] 67)).alloc (.cells #[.int .i64 0, .int .i64 0] 69) = w0
    intro F0 V0 E0
    have FB := Lib.hid F0
    have VB := Lib.hid V0
    clear F0 V0
    refine (M1.out _ (h.ext E0)).mono ?_; rintro e w1 ⟨rfl, hx1⟩
    have E1 := E0.trans hx1
    have F1 := Lib.hid (FB.out.ext hx1)
    have V1 := Lib.hid (VB.out.ext hx1)
    obtain ⟨p0, p1, p2⟩ := F1.out
    obtain ⟨⟨q0, q1⟩, q2, q3⟩ := V1.out
    clear hx1 E0 FB VB
    rw [decide_eq_false H1.out]
    go_wp2
    obtain ⟨e0, e1⟩ := V1.out.set 0 0
    exact bodyPost_ret (v := .tuple #[.agg #[.int .i64 0, .int .i64 0], .iface 36 (.int .i64 2)]) (by simp [results, Tryd.results48, go_sem, e0, e1]) rfl ⟨_, by rw [HX.out.1, HX.out.2], (E1.setCell (p := ⟨w.heap.size + 1, 0, none⟩) (Nat.le_succ _) _).setCell (p := ⟨w.heap.size + 1, 1, none⟩) (Nat.le_succ _) _, by rw [HR.out]; exact ErrIs.code (by decide)⟩
end Go.Proofs.YtaamnpbhmckpbaaDoor

/- motion.Search where the place may be searched. -/
namespace Go.Proofs.YtaamnpbhmckpbaaDoor
set_option linter.unusedVariables false
set_option linter.unusedSimpArgs false
open Go.RowKit Go.Extern.Stop Go.Stop Go.Extern

set_option maxHeartbeats 8000000 in
set_option maxRecDepth 20000 in
theorem search_fit (W H x y reach : Int) (zs bs : List Int) (a a2 : Option Addr) (n cap n2 cap2 : Nat) (w : World) (h : Ints w (.slice a n cap) zs) (hb : Ints w (.slice a2 n2 cap2) bs) (hm : may W H zs) (hr : rngOk W H x y reach) (hl : bs.length ≠ 64) :
    Calls Tryd.prog 48 #[.agg #[.int .i64 W, .int .i64 H, .slice a n cap], .slice a2 n2 cap2, .int .i64 x, .int .i64 y, .int .i64 reach] w (VPost w (srX W H zs bs x y reach) (srY W H zs bs x y reach) (srE W H zs bs x y reach)) := by
  have M1 := Lib.hid (fun w h => may_any W H zs a n cap w h)
  have H1 := Lib.hid hm
  have HR : Hid (srE W H zs bs x y reach = fit) := by show _ = _; unfold srE; rw [if_pos hm, if_pos hr, if_neg hl]
  have HX : Hid (srX W H zs bs x y reach = 0 ∧ srY W H zs bs x y reach = 0) := by unfold srX srY; rw [HR.out]; exact ⟨rfl, rfl⟩
  have hl2 := hb.len
  have b1 : ((n2 : Int) != 64) = true := by rw [bne_iff_ne]; omega
  clear hl hl2 hm
  have hW := sideB_true H1.out.1
  have hH := sideB_true H1.out.2.1
  have d1 : IntKind.i64.wrap (W - 8) = W - 8 := by rw [IntKind.wrap_i64]; omega
  have d2 : IntKind.i64.wrap (H - 8) = H - 8 := by rw [IntKind.wrap_i64]; omega
  obtain ⟨hW1, hW2, -⟩ := hW
  obtain ⟨hH1, hH2, -⟩ := hH
  obtain ⟨⟨r1, r2⟩, ⟨x1, x2⟩, y1, y2⟩ := hr
  obtain ⟨F0, V0⟩ := VecAt.new w W H (.slice a n cap)
  have E0 : Ext w ((w.alloc (.cells #[.int .i64 W, .int .i64 H, .slice a n cap] 67)).alloc (.cells #[.int .i64 0, .int .i64 0] 69)) := (by repeat (first | exact Ext.refl _ | assumption | refine Ext.alloc ?_ _ | refine Ext.drew ?_ | refine Ext.drewN ?_ _ | refine Ext.setCell ?_ (by first | exact Nat.le_refl _ | (simp; done) | omega) _ | refine Ext.trans ?_ (by assumption)))
  go_enter Tryd.func48, Tryd.ntmps48
  go_wp2_with fail
  revert F0 V0 E0
  generalize (w.alloc (.cells #[.int .i64 W, .int .i64 H, .slice a n cap] 67)).alloc (.cells #[.int .i64 0, .int .i64 0] 69) = w0
  intro F0 V0 E0
  have FB := Lib.hid F0
  have VB := Lib.hid V0
  clear F0 V0
  refine (M1.out _ (h.ext E0)).mono ?_; rintro e w1 ⟨rfl, hx1⟩
  have E1 := E0.trans hx1
  have F1 := Lib.hid (FB.out.ext hx1)
  have V1 := Lib.hid (VB.out.ext hx1)
  obtain ⟨p0, p1, p2⟩ := F1.out
  obtain ⟨⟨q0, q1⟩, q2, q3⟩ := V1.out
  clear hx1 E0 FB VB
  rw [decide_eq_true H1.out]
  go_wp2
  obtain ⟨e0, e1⟩ := V1.out.set 0 0
  exact bodyPost_ret (v := .tuple #[.agg #[.int .i64 0, .int .i64 0], .iface 36 (.int .i64 14)]) (by simp [results, Tryd.results48, go_sem, e0, e1]) rfl ⟨_, by rw [HX.out.1, HX.out.2], (E1.setCell (p := ⟨w.heap.size + 1, 0, none⟩) (Nat.le_succ _) _).setCell (p := ⟨w.heap.size + 1, 1, none⟩) (Nat.le_succ _) _, by rw [HR.out]; exact ErrIs.code (by decide)⟩
set_option maxHeartbeats 8000000 in
set_option maxRecDepth 20000 in
theorem search_smp (W H x y reach : Int) (zs bs : List Int) (a a2 : Option Addr) (n cap n2 cap2 : Nat) (w : World) (h : Ints w (.slice a n cap) zs) (hb : Ints w (.slice a2 n2 cap2) bs) (hm : may W H zs) (hr : rngOk W H x y reach) (hl : bs.length = 64) (ha : bs.any nosmpB = true) :
    Calls Tryd.prog 48 #[.agg #[.int .i64 W, .int .i64 H, .slice a n cap], .slice a2 n2 cap2, .int .i64 x, .int .i64 y, .int .i64 reach] w (VPost w (srX W H zs bs x y reach) (srY W H zs bs x y reach) (srE W H zs bs x y reach)) := by
  have M1 := Lib.hid (fun w h => may_any W H zs a n cap w h)
  have H1 := Lib.hid hm
  have HR : Hid (srE W H zs bs x y reach = range) := by show _ = _; unfold srE; rw [if_pos hm, if_pos hr, if_pos hl, if_pos ha]
  have HX : Hid (srX W H zs bs x y reach = 0 ∧ srY W H zs bs x y reach = 0) := by unfold srX srY; rw [HR.out]; exact ⟨rfl, rfl⟩
  have hl2 := hb.len
  obtain rfl : n2 = 64 := by omega
  have HN := Lib.hid (fun w h => by have := nosmpBm_has bs (.slice a2 64 cap2) w h; rwa [ha] at this)
  clear hl hl2 hm ha
  have hW := sideB_true H1.out.1
  have hH := sideB_true H1.out.2.1
  have d1 : IntKind.i64.wrap (W - 8) = W - 8 := by rw [IntKind.wrap_i64]; omega
  have d2 : IntKind.i64.wrap (H - 8) = H - 8 := by rw [IntKind.wrap_i64]; omega
  obtain ⟨hW1, hW2, -⟩ := hW
  obtain ⟨hH1, hH2, -⟩ := hH
  obtain ⟨⟨r1, r2⟩, ⟨x1, x2⟩, y1, y2⟩ := hr
  obtain ⟨F0, V0⟩ := VecAt.new w W H (.slice a n cap)
  have E0 : Ext w ((w.alloc (.cells #[.int .i64 W, .int .i64 H, .slice a n cap] 67)).alloc (.cells #[.int .i64 0, .int .i64 0] 69)) := (by repeat (first | exact Ext.refl _ | assumption | refine Ext.alloc ?_ _ | refine Ext.drew ?_ | refine Ext.drewN ?_ _ | refine Ext.setCell ?_ (by first | exact Nat.le_refl _ | (simp; done) | omega) _ | refine Ext.trans ?_ (by assumption)))
  go_enter Tryd.func48, Tryd.ntmps48
  go_wp2_with fail
  revert F0 V0 E0
  generalize (w.alloc (.cells #[.int .i64 W, .int .i64 H, .slice a n cap] 67)).alloc (.cells #[.int .i64 0, .int .i64 0] 69) = w0
  intro F0 V0 E0
  have FB := Lib.hid F0
  have VB := Lib.hid V0
  clear F0 V0
  refine (M1.out _ (h.ext E0)).mono ?_; rintro e w1 ⟨rfl, hx1⟩
  have E1 := E0.trans hx1
  have F1 := Lib.hid (FB.out.ext hx1)
  have V1 := Lib.hid (VB.out.ext hx1)
  obtain ⟨p0, p1, p2⟩ := F1.out
  obtain ⟨⟨q0, q1⟩, q2, q3⟩ := V1.out
  clear hx1 E0 FB VB
  rw [decide_eq_true H1.out]
  go_wp2_with fail
  refine (HN.out _ (hb.ext E1)).mono ?_; rintro e w2 ⟨rfl, rfl⟩
  go_wp2
  obtain ⟨e0, e1⟩ := V1.out.set 0 0
  exact bodyPost_ret (v := .tuple #[.agg #[.int .i64 0, .int .i64 0], .iface 36 (.int .i64 3)]) (by simp [results, Tryd.results48, go_sem, e0, e1]) rfl ⟨_, by rw [HX.out.1, HX.out.2], (E1.setCell (p := ⟨w.heap.size + 1, 0, none⟩) (Nat.le_succ _) _).setCell (p := ⟨w.heap.size + 1, 1, none⟩) (Nat.le_succ _) _, by rw [HR.out]; exact ErrIs.code (by decide)⟩
theorem srch_vec0 (R : Nat) (hR : R ≤ 7) (i j : Nat) (hi : i < 2 * R + 1) (hj : j < 2 * R + 1) : vecB (arV 0 2 R i) (arV 0 2 R j) = true := by
  unfold vecB arV
  exact decide_eq_true (by omega)
theorem srch_vec1 {m p q : Int} (h : inW m p q) (hm : m ≤ 14) (i j : Nat) (hi : i < 2 * 1 + 1) (hj : j < 2 * 1 + 1) : vecB (arV p 1 1 i) (arV q 1 1 j) = true := by
  unfold inW at h
  unfold vecB arV
  exact decide_eq_true (by omega)
set_option maxHeartbeats 8000000 in
set_option maxRecDepth 20000 in
theorem search_yes (W H x y : Int) (R : Nat) (zs bs : List Int) (a a2 : Option Addr) (n cap n2 cap2 : Nat) (w : World) (h : Ints w (.slice a n cap) zs) (hb : Ints w (.slice a2 n2 cap2) bs) (hm : may W H zs) (hr : rngOk W H x y R) (hl : bs.length = 64) (ha : bs.any nosmpB = false) :
    Calls Tryd.prog 48 #[.agg #[.int .i64 W, .int .i64 H, .slice a n cap], .slice a2 n2 cap2, .int .i64 x, .int .i64 y, .int .i64 R] w (VPost w (srX W H zs bs x y R) (srY W H zs bs x y R) (srE W H zs bs x y R)) := by
  have M1 := Lib.hid (fun w h => may_any W H zs a n cap w h)
  have H1 := Lib.hid hm
  have HR : Hid (srE W H zs bs x y R = none) := by show _ = _; unfold srE; rw [if_pos hm, if_pos hr, if_pos hl, if_neg (by rw [ha]; decide)]
  have hB := smp_of_any ha
  have hxy : (0 ≤ x ∧ x ≤ 32) ∧ 0 ≤ y ∧ y ≤ 32 := by
    have hW := sideB_true hm.1
    have hH := sideB_true hm.2.1
    unfold rngOk at hr
    omega
  have hR7 : R ≤ 7 := by unfold rngOk at hr; omega
  -- what the search finds
  have s0 := scF_in (bs := bs) (vx := 0) (vy := 0) hm (by decide) hB x y 64
  have s1 := sr1_in (scC W H zs bs x y) R ((2 * R + 1) * (2 * R + 1)) (Nat.le_refl _)
  obtain ⟨p1, q1, l1, h1⟩ : ∃ p1 q1 l1, arS (scC W H zs bs x y) 0 0 2 R (0, 0, scC W H zs bs x y 0 0) ((2 * R + 1) * (2 * R + 1)) = (p1, q1, l1) := ⟨_, _, _, rfl⟩
  obtain ⟨p2, q2, l2, h2⟩ : ∃ p2 q2 l2, arS (scC W H zs bs x y) p1 q1 1 1 (p1, q1, l1) 9 = (p2, q2, l2) := ⟨_, _, _, rfl⟩
  rw [h1] at s1
  have c1 := sr1_cost (scC W H zs bs x y) R
  have t1 : sr1 (scC W H zs bs x y) R = (p1, q1, l1) := h1
  rw [t1] at c1
  have t2 : sr2 (scC W H zs bs x y) R = (p2, q2, l2) := by unfold sr2; rw [t1]; exact h2
  have HX : Hid (srX W H zs bs x y R = p2 ∧ srY W H zs bs x y R = q2) := by
    unfold srX srY
    rw [HR.out]
    have e : sr2 (fun vx vy => scF W H zs bs x y vx vy 64) (R : Int).toNat = (p2, q2, l2) := t2
    exact ⟨by show (sr2 _ _).1 = _; rw [e], by show (sr2 _ _).2.1 = _; rw [e]⟩
  simp only at s1 c1
  have hv2 : Hid (∀ i j : Nat, i < 2 * 1 + 1 → j < 2 * 1 + 1 → vecB (arV p1 1 1 i) (arV q1 1 1 j) = true) := fun i j hi hj => srch_vec1 s1 (by omega) i j hi hj
  have b1 : -15 ≤ p1 ∧ p1 ≤ 15 ∧ -15 ≤ q1 ∧ q1 ≤ 15 := by unfold inW at s1; omega
  have b2 : 0 ≤ l1 ∧ l1 ≤ 1000000 := by
    have hv : vecB p1 q1 = true := by unfold vecB; exact decide_eq_true (by omega)
    have := scF_in (bs := bs) hm hv hB x y 64
    rw [c1]
    unfold scC
    omega
  have UC := Lib.hid (fun (w' : World) (B : Nat) (h1 : Ints w' (.slice a n cap) zs) (h2 : Ints w' (.slice a2 n2 cap2) bs) (h3 : SrBox w' B W H (.slice a n cap) (.slice a2 n2 cap2) x y 0 0 0) => scost_any W H x y 0 0 (-1) 0 0 0 zs bs a a2 n cap n2 cap2 B w' h1 h2 h3 hm (by decide) hxy.1 hxy.2 hl hB)
  have HS0 : Hid (scF W H zs bs x y 0 0 64 = scC W H zs bs x y 0 0) := rfl
  have UA := Lib.hid (fun (w' : World) (B : Nat) h1 h2 h3 => saround_any W H x y 0 0 (scC W H zs bs x y 0 0) 2 R zs bs a a2 n cap n2 cap2 B w' h1 h2 h3 hm hxy.1 hxy.2 hl hB (srch_vec0 R hR7) (by unfold scC; omega) hR7 (.inr rfl) (by omega))
  have UB := Lib.hid (fun (w' : World) (B : Nat) h1 h2 h3 => saround_any W H x y p1 q1 l1 1 1 zs bs a a2 n cap n2 cap2 B w' h1 h2 h3 hm hxy.1 hxy.2 hl hB hv2 b2 (by decide) (.inl rfl) b1)
  have K1 := Lib.hid h1
  have K2 := Lib.hid h2
  have HN := Lib.hid (fun w h => by have := nosmpBm_has bs (.slice a2 n2 cap2) w h; rwa [ha] at this)
  have hl2 := hb.len
  have b3 : ((n2 : Int) != 64) = false := by rw [bne_eq_false_iff_eq]; omega
  clear hl hl2 hm ha s0 s1 h1 h2 c1 t1 t2 hB hxy b1 b2 hv2
  have hW := sideB_true H1.out.1
  have hH := sideB_true H1.out.2.1
  have d1 : IntKind.i64.wrap (W - 8) = W - 8 := by rw [IntKind.wrap_i64]; omega
  have d2 : IntKind.i64.wrap (H - 8) = H - 8 := by rw [IntKind.wrap_i64]; omega
  obtain ⟨hW1, hW2, -⟩ := hW
  obtain ⟨hH1, hH2, -⟩ := hH
  obtain ⟨⟨r1, r2⟩, ⟨x1, x2⟩, y1, y2⟩ := hr
  obtain ⟨F0, V0⟩ := VecAt.new w W H (.slice a n cap)
  have E0 : Ext w ((w.alloc (.cells #[.int .i64 W, .int .i64 H, .slice a n cap] 67)).alloc (.cells #[.int .i64 0, .int .i64 0] 69)) := (by repeat (first | exact Ext.refl _ | assumption | refine Ext.alloc ?_ _ | refine Ext.drew ?_ | refine Ext.drewN ?_ _ | refine Ext.setCell ?_ (by first | exact Nat.le_refl _ | (simp; done) | omega) _ | refine Ext.trans ?_ (by assumption)))
  go_enter Tryd.func48, Tryd.ntmps48
  go_wp2_with fail
  revert F0 V0 E0
  generalize (w.alloc (.cells #[.int .i64 W, .int .i64 H, .slice a n cap] 67)).alloc (.cells #[.int .i64 0, .int .i64 0] 69) = w0
  intro F0 V0 E0
  have FB := Lib.hid F0
  have VB := Lib.hid V0
  clear F0 V0
  refine (M1.out _ (h.ext E0)).mono ?_; rintro e w1 ⟨rfl, hx1⟩
  have E1 := E0.trans hx1
  have F1 := Lib.hid (FB.out.ext hx1)
  have V1 := Lib.hid (VB.out.ext hx1)
  obtain ⟨p0, p1, p2⟩ := F1.out
  obtain ⟨⟨q0, q1⟩, q2, q3⟩ := V1.out
  clear hx1 E0 FB VB
  rw [decide_eq_true H1.out]
  go_wp2_with fail
  refine (HN.out _ (hb.ext E1)).mono ?_; rintro e w2 ⟨rfl, rfl⟩
  have hB1 : w.heap.size + 1 < w1.heap.size := Ext.lt (p := ⟨w.heap.size + 1, 0, none⟩) V1.out.1.1
  have SN := SrOwn.new w1 W H (.slice a n cap) (.slice a2 n2 cap2) x y
  have EN : Ext w1 (w1.alloc (.cells #[.int .i64 W, .int .i64 H, .slice a n cap, .slice a2 n2 cap2, .int .i64 x, .int .i64 y, .int .i64 0, .int .i64 0, .int .i64 0] 111)) := (Ext.refl w1).alloc _
  go_wp2_with fail
  revert SN EN
  generalize w1.alloc (.cells #[.int .i64 W, .int .i64 H, .slice a n cap, .slice a2 n2 cap2, .int .i64 x, .int .i64 y, .int .i64 0, .int .i64 0, .int .i64 0] 111) = w3
  intro SN EN
  have E3 := E1.trans EN
  have V3 := Lib.hid (V1.out.ext EN)
  refine (UC.out _ _ (h.ext E3) (hb.ext E3) SN.1).mono ?_; rintro e w4 ⟨c4, rfl, hx4, hc4⟩
  obtain rfl : c4 = scC W H zs bs x y 0 0 := by rcases hc4 with hc4 | hc4; exact hc4; exact absurd hc4.1 (by decide)
  have S4 := Lib.hid (SN.ext hx4)
  have V4 := Lib.hid (V3.out.ext hx4)
  have E4 := E3.trans hx4
  clear hc4 SN EN V3 p0 p1 p2 q0 q1 q2 q3 F1 V1 HS0 UC
  obtain ⟨⟨-, -, -, -, -, -, -, -, y8⟩, f6, f7, f8⟩ := S4.out
  have S5 := Lib.hid (S4.out.setl (scC W H zs bs x y 0 0))
  have KP5 := (Kp.refl w1.heap.size w4).set 8 (.int .i64 (scC W H zs bs x y 0 0))
  have E5 := Kp.out E4 KP5 (by omega)
  have V5 := Lib.hid (V4.out.kp KP5 (by omega))
  go_wp2_with fail
  clear y8 f6 f7 f8
  revert S5 E5 V5
  generalize w4.setCell ⟨w1.heap.size, 8, none⟩ (.int .i64 (scC W H zs bs x y 0 0)) = w5
  intro S5 E5 V5
  refine (UA.out w5 w1.heap.size (fun w' k => h.ext (Kp.out E5 k (by omega))) (fun w' k => hb.ext (Kp.out E5 k (by omega))) S5.out).mono ?_; rintro e w6 ⟨rfl, k6, a1, a2', a3, ha1, S6⟩
  obtain ⟨rfl, rfl, rfl⟩ : p1 = a1 ∧ q1 = a2' ∧ l1 = a3 := by have := K1.out.symm.trans ha1; simp only [Prod.mk.injEq] at this; exact this
  have E6 := Kp.out E5 k6 (by omega)
  have V6 := Lib.hid (V5.out.kp k6 (by omega))
  have HS6 := Lib.hid S6
  clear ha1 S6 k6 V5 S5 E5
  go_wp2_with fail
  refine (UB.out w6 w1.heap.size (fun w' k => h.ext (Kp.out E6 k (by omega))) (fun w' k => hb.ext (Kp.out E6 k (by omega))) HS6.out).mono ?_; rintro e w7 ⟨rfl, k7, a1, a2', a3, ha1, S7⟩
  obtain ⟨rfl, rfl, rfl⟩ : p2 = a1 ∧ q2 = a2' ∧ l2 = a3 := by have := K2.out.symm.trans ha1; simp only [Prod.mk.injEq] at this; exact this
  have E7 := Kp.out E6 k7 (by omega)
  have V7 := Lib.hid (V6.out.kp k7 (by omega))
  obtain ⟨⟨-, -, -, -, -, -, y6, y7, -⟩, -, -, -⟩ := S7
  clear ha1 k7 V6 HS6 E6
  obtain ⟨⟨z0, z1⟩, z2, z3⟩ := V7.out
  go_wp2
  obtain ⟨e0, e1⟩ := V7.out.set p2 q2
  exact bodyPost_ret (v := .tuple #[.agg #[.int .i64 p2, .int .i64 q2], .nilIface]) (by simp [results, Tryd.results48, go_sem, e0, e1]) rfl ⟨_, by rw [HX.out.1, HX.out.2], (E7.setCell (p := ⟨w.heap.size + 1, 0, none⟩) (Nat.le_succ _) _).setCell (p := ⟨w.heap.size + 1, 1, none⟩) (Nat.le_succ _) _, by rw [HR.out]; rfl⟩
theorem search_any (W H x y reach : Int) (zs bs : List Int) (a a2 : Option Addr) (n cap n2 cap2 : Nat) (w : World) (h : Ints w (.slice a n cap) zs) (hb : Ints w (.slice a2 n2 cap2) bs) :
    Calls Tryd.prog 48 #[.agg #[.int .i64 W, .int .i64 H, .slice a n cap], .slice a2 n2 cap2, .int .i64 x, .int .i64 y, .int .i64 reach] w (VPost w (srX W H zs bs x y reach) (srY W H zs bs x y reach) (srE W H zs bs x y reach)) := by
  by_cases ho : may W H zs ∧ rngOk W H x y reach
  · obtain ⟨hm, hr⟩ := ho
    by_cases hl : bs.length = 64
    · cases ha : bs.any nosmpB with
      | true => exact search_smp W H x y reach zs bs a a2 n cap n2 cap2 w h hb hm hr hl ha
      | false =>
        obtain ⟨R, rfl⟩ : ∃ R : Nat, reach = (R : Int) := ⟨reach.toNat, by unfold rngOk at hr; omega⟩
        exact search_yes W H x y R zs bs a a2 n cap n2 cap2 w h hb hm hr hl ha
    · exact search_fit W H x y reach zs bs a a2 n cap n2 cap2 w h hb hm hr hl
  · exact search_no W H x y reach zs bs a a2 n cap n2 cap2 w h hb ho
end Go.Proofs.YtaamnpbhmckpbaaDoor

/- kinref11.Search where it fails: its contract over this seat's translation. -/
namespace Go.Proofs.YtaamnpbhmckpbaaDoor
set_option linter.unusedVariables false
set_option linter.unusedSimpArgs false
open Go.RowKit Go.Extern.Stop Go.Stop Go.Extern

def RVPost (w : World) (X Y : Int) (f : Fall) (e : Ending) (w' : World) : Prop := ∃ c a m k, e = .returned (.tuple #[.agg #[.int .i64 X, .int .i64 Y], .agg #[.int .i64 c, .slice a m k]]) ∧ Ext w w' ∧ RErrIs w' f c (.slice a m k)
theorem ResAt.kp {w w' : World} {b g : Nat} (h : ResAt w b) (k : Kp g w w') (hb : b ≠ g) : ResAt w' b :=
  ⟨k.cell h.1 hb, k.cell h.2.1 hb, (k.frozen (p := ⟨b, 0, none⟩) (Ext.lt (p := ⟨b, 0, none⟩) h.1) hb).trans h.2.2.1, (k.frozen (p := ⟨b, 1, none⟩) (Ext.lt (p := ⟨b, 0, none⟩) h.1) hb).trans h.2.2.2⟩
theorem vr_set {w : World} {B C : Nat} (hv : VecAt w B) (hr : ResAt w C) (hne : B ≠ C) (X Y c : Int) (v : Value) :
    ((((w.setCell ⟨B, 0, none⟩ (.int .i64 X)).setCell ⟨B, 1, none⟩ (.int .i64 Y)).setCell ⟨C, 0, none⟩ (.int .i64 c)).setCell ⟨C, 1, none⟩ v).cell? ⟨B, 0, none⟩ = some (.int .i64 X) ∧
    ((((w.setCell ⟨B, 0, none⟩ (.int .i64 X)).setCell ⟨B, 1, none⟩ (.int .i64 Y)).setCell ⟨C, 0, none⟩ (.int .i64 c)).setCell ⟨C, 1, none⟩ v).cell? ⟨B, 1, none⟩ = some (.int .i64 Y) ∧
    ((((w.setCell ⟨B, 0, none⟩ (.int .i64 X)).setCell ⟨B, 1, none⟩ (.int .i64 Y)).setCell ⟨C, 0, none⟩ (.int .i64 c)).setCell ⟨C, 1, none⟩ v).cell? ⟨C, 0, none⟩ = some (.int .i64 c) ∧
    ((((w.setCell ⟨B, 0, none⟩ (.int .i64 X)).setCell ⟨B, 1, none⟩ (.int .i64 Y)).setCell ⟨C, 0, none⟩ (.int .i64 c)).setCell ⟨C, 1, none⟩ v).cell? ⟨C, 1, none⟩ = some v := by
  have h1 := hv.set X Y
  have h2 := h1.kp (((Kp.refl C _).set 0 (.int .i64 c)).set 1 v) hne
  have h3 := hr.kp (((Kp.refl B w).set 0 (.int .i64 X)).set 1 (.int .i64 Y)) (Ne.symm hne)
  obtain ⟨e0, e1⟩ := res_cells (c := c) h3.1 h3.2.1 v
  exact ⟨h2.1, h2.2, e0, e1⟩
theorem within_nosmp {zs : List Int} (h : within 0 255 zs) : zs.any nosmpB = false := any_no fun j x _ hx => by
  have := h.at hx
  unfold nosmpB
  simp
  omega
theorem nosmp_within {zs : List Int} (h : zs.any nosmpB = false) : within 0 255 zs := fun x hx => by
  have : nosmpB x = false := by
    cases hn : nosmpB x with
    | false => rfl
    | true => rw [List.any_eq_true.2 ⟨x, hx, hn⟩] at h; cases h
  unfold nosmpB at this
  simp at this
  omega
theorem RS.new (w : World) (W H : Int) (u : Value) : FrBox (((w.alloc (.cells #[.int .i64 W, .int .i64 H, u] 67)).alloc (.cells #[.int .i64 0, .int .i64 0] 69)).alloc (.cells #[.int .i64 0, .slice none 0 0] 39)) w.heap.size W H u ∧ VecAt (((w.alloc (.cells #[.int .i64 W, .int .i64 H, u] 67)).alloc (.cells #[.int .i64 0, .int .i64 0] 69)).alloc (.cells #[.int .i64 0, .slice none 0 0] 39)) (w.heap.size + 1) ∧ ResAt (((w.alloc (.cells #[.int .i64 W, .int .i64 H, u] 67)).alloc (.cells #[.int .i64 0, .int .i64 0] 69)).alloc (.cells #[.int .i64 0, .slice none 0 0] 39)) (w.heap.size + 2) := by
  obtain ⟨h1, h2⟩ := VecAt.new w W H u
  have h3 := ResAt.new ((w.alloc (.cells #[.int .i64 W, .int .i64 H, u] 67)).alloc (.cells #[.int .i64 0, .int .i64 0] 69))
  have e : ((w.alloc (.cells #[.int .i64 W, .int .i64 H, u] 67)).alloc (.cells #[.int .i64 0, .int .i64 0] 69)).heap.size = w.heap.size + 2 := by simp
  rw [e] at h3
  exact ⟨h1.ext ((Ext.refl _).alloc _), h2.ext ((Ext.refl _).alloc _), h3⟩
set_option maxHeartbeats 8000000 in
set_option maxRecDepth 20000 in
theorem rsearch_no (W H x y reach : Int) (zs bs : List Int) (a a2 : Option Addr) (n cap n2 cap2 : Nat) (w : World) (h : Ints w (.slice a n cap) zs) (hb : Ints w (.slice a2 n2 cap2) bs) (ho : ¬ (may W H zs ∧ rngOk W H x y reach)) :
    Calls Tryd.prog 49 #[.agg #[.int .i64 W, .int .i64 H, .slice a n cap], .slice a2 n2 cap2, .int .i64 x, .int .i64 y, .int .i64 reach] w (RVPost w (srX W H zs bs x y reach) (srY W H zs bs x y reach) (srE W H zs bs x y reach)) := by
  have M1 := Lib.hid (fun w h => rmay_any W H zs a n cap w h)
  by_cases h1 : may W H zs
  · have H1 := Lib.hid h1
    have hr : ¬ rngOk W H x y reach := fun k => ho ⟨h1, k⟩
    have hW := sideB_true h1.1
    have hH := sideB_true h1.2.1
    obtain ⟨hW1, hW2, -⟩ := hW
    obtain ⟨hH1, hH2, -⟩ := hH
    unfold rngOk at hr
    clear ho h1
    by_cases c1 : reach < 0
    · clear hr
      have HR : Hid (srE W H zs bs x y reach = range) := by show _ = _; unfold srE; rw [if_pos H1.out, if_neg (by unfold rngOk; omega)]
      have HX : Hid (srX W H zs bs x y reach = 0 ∧ srY W H zs bs x y reach = 0) := by unfold srX srY; rw [HR.out]; exact ⟨rfl, rfl⟩
      obtain ⟨F0, V0, R0⟩ := RS.new w W H (.slice a n cap)
      have E0 : Ext w (((w.alloc (.cells #[.int .i64 W, .int .i64 H, .slice a n cap] 67)).alloc (.cells #[.int .i64 0, .int .i64 0] 69)).alloc (.cells #[.int .i64 0, .slice none 0 0] 39)) := (by repeat (first | exact Ext.refl _ | assumption | refine Ext.alloc ?_ _ | refine Ext.drew ?_ | refine Ext.drewN ?_ _ | refine Ext.setCell ?_ (by first | exact Nat.le_refl _ | (simp; done) | omega) _ | refine Ext.trans ?_ (by assumption)))
      go_enter Tryd.func49, Tryd.ntmps49
      go_wp2_with fail
      revert F0 V0 R0 E0
      generalize ((w.alloc (.cells #[.int .i64 W, .int .i64 H, .slice a n cap] 67)).alloc (.cells #[.int .i64 0, .int .i64 0] 69)).alloc (.cells #[.int .i64 0, .slice none 0 0] 39) = w0
      intro F0 V0 R0 E0
      have FB := Lib.hid F0
      have VB := Lib.hid V0
      have RB := Lib.hid R0
      clear F0 V0 R0
      refine (M1.out _ (h.ext E0)).mono ?_; rintro e w1 ⟨rfl, hx1⟩
      have E1 := E0.trans hx1
      have F1 := Lib.hid (FB.out.ext hx1)
      have V1 := Lib.hid (VB.out.ext hx1)
      have R1 := Lib.hid (RB.out.ext hx1)
      obtain ⟨p0, p1, p2⟩ := F1.out
      clear hx1 E0 FB VB RB
      rw [decide_eq_true H1.out]
      go_wp2_with fail
      refine (fail_any 3 _).mono ?_; rintro e w3 ⟨rfl, hx3⟩
      have E3 := E1.trans hx3
      have V3 := Lib.hid (V1.out.ext hx3)
      have R3 := Lib.hid (R1.out.ext hx3)
      clear E1 V1 R1 F1 p0 p1 p2 hx3
      obtain ⟨⟨q0, q1⟩, q2, q3⟩ := V3.out
      obtain ⟨g0, g1, g2, g3⟩ := R3.out
      go_wp2
      obtain ⟨e0, e1, e2, e3⟩ := vr_set V3.out R3.out (by omega) 0 0 3 (.slice none 0 0)
      exact bodyPost_ret (v := .tuple #[.agg #[.int .i64 0, .int .i64 0], .agg #[.int .i64 3, .slice none 0 0]]) (by simp [results, Tryd.results49, go_sem, e0, e1, e2, e3]) rfl ⟨_, _, _, _, by rw [HX.out.1, HX.out.2], (((E3.setCell (p := ⟨w.heap.size + 1, 0, none⟩) (Nat.le_succ _) _).setCell (p := ⟨w.heap.size + 1, 1, none⟩) (Nat.le_succ _) _).setCell (p := ⟨w.heap.size + 2, 0, none⟩) (by simp) _).setCell (p := ⟨w.heap.size + 2, 1, none⟩) (by simp) _, by rw [HR.out]; exact RErrIs.code (by decide)⟩
    · by_cases c2 : 7 < reach
      · clear hr
        have HR : Hid (srE W H zs bs x y reach = range) := by show _ = _; unfold srE; rw [if_pos H1.out, if_neg (by unfold rngOk; omega)]
        have HX : Hid (srX W H zs bs x y reach = 0 ∧ srY W H zs bs x y reach = 0) := by unfold srX srY; rw [HR.out]; exact ⟨rfl, rfl⟩
        obtain ⟨F0, V0, R0⟩ := RS.new w W H (.slice a n cap)
        have E0 : Ext w (((w.alloc (.cells #[.int .i64 W, .int .i64 H, .slice a n cap] 67)).alloc (.cells #[.int .i64 0, .int .i64 0] 69)).alloc (.cells #[.int .i64 0, .slice none 0 0] 39)) := (by repeat (first | exact Ext.refl _ | assumption | refine Ext.alloc ?_ _ | refine Ext.drew ?_ | refine Ext.drewN ?_ _ | refine Ext.setCell ?_ (by first | exact Nat.le_refl _ | (simp; done) | omega) _ | refine Ext.trans ?_ (by assumption)))
        go_enter Tryd.func49, Tryd.ntmps49
        go_wp2_with fail
        revert F0 V0 R0 E0
        generalize ((w.alloc (.cells #[.int .i64 W, .int .i64 H, .slice a n cap] 67)).alloc (.cells #[.int .i64 0, .int .i64 0] 69)).alloc (.cells #[.int .i64 0, .slice none 0 0] 39) = w0
        intro F0 V0 R0 E0
        have FB := Lib.hid F0
        have VB := Lib.hid V0
        have RB := Lib.hid R0
        clear F0 V0 R0
        refine (M1.out _ (h.ext E0)).mono ?_; rintro e w1 ⟨rfl, hx1⟩
        have E1 := E0.trans hx1
        have F1 := Lib.hid (FB.out.ext hx1)
        have V1 := Lib.hid (VB.out.ext hx1)
        have R1 := Lib.hid (RB.out.ext hx1)
        obtain ⟨p0, p1, p2⟩ := F1.out
        clear hx1 E0 FB VB RB
        rw [decide_eq_true H1.out]
        go_wp2_with fail
        refine (fail_any 3 _).mono ?_; rintro e w3 ⟨rfl, hx3⟩
        have E3 := E1.trans hx3
        have V3 := Lib.hid (V1.out.ext hx3)
        have R3 := Lib.hid (R1.out.ext hx3)
        clear E1 V1 R1 F1 p0 p1 p2 hx3
        obtain ⟨⟨q0, q1⟩, q2, q3⟩ := V3.out
        obtain ⟨g0, g1, g2, g3⟩ := R3.out
        go_wp2
        obtain ⟨e0, e1, e2, e3⟩ := vr_set V3.out R3.out (by omega) 0 0 3 (.slice none 0 0)
        exact bodyPost_ret (v := .tuple #[.agg #[.int .i64 0, .int .i64 0], .agg #[.int .i64 3, .slice none 0 0]]) (by simp [results, Tryd.results49, go_sem, e0, e1, e2, e3]) rfl ⟨_, _, _, _, by rw [HX.out.1, HX.out.2], (((E3.setCell (p := ⟨w.heap.size + 1, 0, none⟩) (Nat.le_succ _) _).setCell (p := ⟨w.heap.size + 1, 1, none⟩) (Nat.le_succ _) _).setCell (p := ⟨w.heap.size + 2, 0, none⟩) (by simp) _).setCell (p := ⟨w.heap.size + 2, 1, none⟩) (by simp) _, by rw [HR.out]; exact RErrIs.code (by decide)⟩
      · have hlb : liesB W H x y 8 = false := by
          cases hc : liesB W H x y 8 with
          | false => rfl
          | true =>
            unfold liesB at hc
            simp at hc
            omega
        have L1 := Lib.hid (fun w => by have := lies_any W H x y 8 (.slice a n cap) a n cap w rfl (by omega) (by omega) (by omega); rwa [hlb] at this)
        have HR : Hid (srE W H zs bs x y reach = range) := by show _ = _; unfold srE; rw [if_pos H1.out, if_neg (by unfold rngOk; exact hr)]
        have HX : Hid (srX W H zs bs x y reach = 0 ∧ srY W H zs bs x y reach = 0) := by unfold srX srY; rw [HR.out]; exact ⟨rfl, rfl⟩
        clear hr hlb
        obtain ⟨F0, V0, R0⟩ := RS.new w W H (.slice a n cap)
        have E0 : Ext w (((w.alloc (.cells #[.int .i64 W, .int .i64 H, .slice a n cap] 67)).alloc (.cells #[.int .i64 0, .int .i64 0] 69)).alloc (.cells #[.int .i64 0, .slice none 0 0] 39)) := (by repeat (first | exact Ext.refl _ | assumption | refine Ext.alloc ?_ _ | refine Ext.drew ?_ | refine Ext.drewN ?_ _ | refine Ext.setCell ?_ (by first | exact Nat.le_refl _ | (simp; done) | omega) _ | refine Ext.trans ?_ (by assumption)))
        go_enter Tryd.func49, Tryd.ntmps49
        go_wp2_with fail
        revert F0 V0 R0 E0
        generalize ((w.alloc (.cells #[.int .i64 W, .int .i64 H, .slice a n cap] 67)).alloc (.cells #[.int .i64 0, .int .i64 0] 69)).alloc (.cells #[.int .i64 0, .slice none 0 0] 39) = w0
        intro F0 V0 R0 E0
        have FB := Lib.hid F0
        have VB := Lib.hid V0
        have RB := Lib.hid R0
        clear F0 V0 R0
        refine (M1.out _ (h.ext E0)).mono ?_; rintro e w1 ⟨rfl, hx1⟩
        have E1 := E0.trans hx1
        have F1 := Lib.hid (FB.out.ext hx1)
        have V1 := Lib.hid (VB.out.ext hx1)
        have R1 := Lib.hid (RB.out.ext hx1)
        obtain ⟨p0, p1, p2⟩ := F1.out
        clear hx1 E0 FB VB RB
        rw [decide_eq_true H1.out]
        go_wp2_with fail
        refine (L1.out _).mono ?_; rintro e w2 ⟨rfl, hx2⟩
        go_wp2_with fail
        refine (fail_any 3 _).mono ?_; rintro e w3 ⟨rfl, hx3⟩
        have E3 := (E1.trans hx2).trans hx3
        have V3 := Lib.hid (V1.out.ext (hx2.trans hx3))
        have R3 := Lib.hid (R1.out.ext (hx2.trans hx3))
        clear E1 V1 R1 F1 p0 p1 p2 hx3 hx2
        obtain ⟨⟨q0, q1⟩, q2, q3⟩ := V3.out
        obtain ⟨g0, g1, g2, g3⟩ := R3.out
        go_wp2
        obtain ⟨e0, e1, e2, e3⟩ := vr_set V3.out R3.out (by omega) 0 0 3 (.slice none 0 0)
        exact bodyPost_ret (v := .tuple #[.agg #[.int .i64 0, .int .i64 0], .agg #[.int .i64 3, .slice none 0 0]]) (by simp [results, Tryd.results49, go_sem, e0, e1, e2, e3]) rfl ⟨_, _, _, _, by rw [HX.out.1, HX.out.2], (((E3.setCell (p := ⟨w.heap.size + 1, 0, none⟩) (Nat.le_succ _) _).setCell (p := ⟨w.heap.size + 1, 1, none⟩) (Nat.le_succ _) _).setCell (p := ⟨w.heap.size + 2, 0, none⟩) (by simp) _).setCell (p := ⟨w.heap.size + 2, 1, none⟩) (by simp) _, by rw [HR.out]; exact RErrIs.code (by decide)⟩
  · have H1 := Lib.hid h1
    have HR : Hid (srE W H zs bs x y reach = form) := by show _ = _; unfold srE; rw [if_neg h1]
    have HX : Hid (srX W H zs bs x y reach = 0 ∧ srY W H zs bs x y reach = 0) := by unfold srX srY; rw [HR.out]; exact ⟨rfl, rfl⟩
    clear ho h1
    obtain ⟨F0, V0, R0⟩ := RS.new w W H (.slice a n cap)
    have E0 : Ext w (((w.alloc (.cells #[.int .i64 W, .int .i64 H, .slice a n cap] 67)).alloc (.cells #[.int .i64 0, .int .i64 0] 69)).alloc (.cells #[.int .i64 0, .slice none 0 0] 39)) := (by repeat (first | exact Ext.refl _ | assumption | refine Ext.alloc ?_ _ | refine Ext.drew ?_ | refine Ext.drewN ?_ _ | refine Ext.setCell ?_ (by first | exact Nat.le_refl _ | (simp; done) | omega) _ | refine Ext.trans ?_ (by assumption)))
    go_enter Tryd.func49, Tryd.ntmps49
    go_wp2_with fail
    revert F0 V0 R0 E0
    generalize ((w.alloc (.cells #[.int .i64 W, .int .i64 H, .slice a n cap] 67)).alloc (.cells #[.int .i64 0, .int .i64 0] 69)).alloc (.cells #[.int .i64 0, .slice none 0 0] 39) = w0
    intro F0 V0 R0 E0
    have FB := Lib.hid F0
    have VB := Lib.hid V0
    have RB := Lib.hid R0
    clear F0 V0 R0
    refine (M1.out _ (h.ext E0)).mono ?_; rintro e w1 ⟨rfl, hx1⟩
    have E1 := E0.trans hx1
    have F1 := Lib.hid (FB.out.ext hx1)
    have V1 := Lib.hid (VB.out.ext hx1)
    have R1 := Lib.hid (RB.out.ext hx1)
    obtain ⟨p0, p1, p2⟩ := F1.out
    clear hx1 E0 FB VB RB
    rw [decide_eq_false H1.out]
    go_wp2_with fail
    refine (fail_any 2 _).mono ?_; rintro e w3 ⟨rfl, hx3⟩
    have E3 := E1.trans hx3
    have V3 := Lib.hid (V1.out.ext hx3)
    have R3 := Lib.hid (R1.out.ext hx3)
    clear E1 V1 R1 F1 p0 p1 p2 hx3
    obtain ⟨⟨q0, q1⟩, q2, q3⟩ := V3.out
    obtain ⟨g0, g1, g2, g3⟩ := R3.out
    go_wp2
    obtain ⟨e0, e1, e2, e3⟩ := vr_set V3.out R3.out (by omega) 0 0 2 (.slice none 0 0)
    exact bodyPost_ret (v := .tuple #[.agg #[.int .i64 0, .int .i64 0], .agg #[.int .i64 2, .slice none 0 0]]) (by simp [results, Tryd.results49, go_sem, e0, e1, e2, e3]) rfl ⟨_, _, _, _, by rw [HX.out.1, HX.out.2], (((E3.setCell (p := ⟨w.heap.size + 1, 0, none⟩) (Nat.le_succ _) _).setCell (p := ⟨w.heap.size + 1, 1, none⟩) (Nat.le_succ _) _).setCell (p := ⟨w.heap.size + 2, 0, none⟩) (by simp) _).setCell (p := ⟨w.heap.size + 2, 1, none⟩) (by simp) _, by rw [HR.out]; exact RErrIs.code (by decide)⟩
set_option maxHeartbeats 8000000 in
set_option maxRecDepth 20000 in
theorem rsearch_fit (W H x y reach : Int) (zs bs : List Int) (a a2 : Option Addr) (n cap n2 cap2 : Nat) (w : World) (h : Ints w (.slice a n cap) zs) (hb : Ints w (.slice a2 n2 cap2) bs) (hm : may W H zs) (hr : rngOk W H x y reach) (hl : bs.length ≠ 64) :
    Calls Tryd.prog 49 #[.agg #[.int .i64 W, .int .i64 H, .slice a n cap], .slice a2 n2 cap2, .int .i64 x, .int .i64 y, .int .i64 reach] w (RVPost w (srX W H zs bs x y reach) (srY W H zs bs x y reach) (srE W H zs bs x y reach)) := by
  have M1 := Lib.hid (fun w h => rmay_any W H zs a n cap w h)
  have H1 := Lib.hid hm
  have HR : Hid (srE W H zs bs x y reach = fit) := by show _ = _; unfold srE; rw [if_pos hm, if_pos hr, if_neg hl]
  have HX : Hid (srX W H zs bs x y reach = 0 ∧ srY W H zs bs x y reach = 0) := by unfold srX srY; rw [HR.out]; exact ⟨rfl, rfl⟩
  have hl2 := hb.len
  have b1 : ((n2 : Int) != 64) = true := by rw [bne_iff_ne]; omega
  clear hl hl2 hm
  have hW := sideB_true H1.out.1
  have hH := sideB_true H1.out.2.1
  obtain ⟨hW1, hW2, -⟩ := hW
  obtain ⟨hH1, hH2, -⟩ := hH
  unfold rngOk at hr
  have hlb : liesB W H x y 8 = true := by unfold liesB; simp; omega
  have L1 := Lib.hid (fun w => by have := lies_any W H x y 8 (.slice a n cap) a n cap w rfl (by omega) (by omega) (by omega); rwa [hlb] at this)
  obtain ⟨⟨r1, r2⟩, ⟨x1, x2⟩, y1, y2⟩ := hr
  clear hlb
  obtain ⟨F0, V0, R0⟩ := RS.new w W H (.slice a n cap)
  have E0 : Ext w (((w.alloc (.cells #[.int .i64 W, .int .i64 H, .slice a n cap] 67)).alloc (.cells #[.int .i64 0, .int .i64 0] 69)).alloc (.cells #[.int .i64 0, .slice none 0 0] 39)) := (by repeat (first | exact Ext.refl _ | assumption | refine Ext.alloc ?_ _ | refine Ext.drew ?_ | refine Ext.drewN ?_ _ | refine Ext.setCell ?_ (by first | exact Nat.le_refl _ | (simp; done) | omega) _ | refine Ext.trans ?_ (by assumption)))
  go_enter Tryd.func49, Tryd.ntmps49
  go_wp2_with fail
  revert F0 V0 R0 E0
  generalize ((w.alloc (.cells #[.int .i64 W, .int .i64 H, .slice a n cap] 67)).alloc (.cells #[.int .i64 0, .int .i64 0] 69)).alloc (.cells #[.int .i64 0, .slice none 0 0] 39) = w0
  intro F0 V0 R0 E0
  have FB := Lib.hid F0
  have VB := Lib.hid V0
  have RB := Lib.hid R0
  clear F0 V0 R0
  refine (M1.out _ (h.ext E0)).mono ?_; rintro e w1 ⟨rfl, hx1⟩
  have E1 := E0.trans hx1
  have F1 := Lib.hid (FB.out.ext hx1)
  have V1 := Lib.hid (VB.out.ext hx1)
  have R1 := Lib.hid (RB.out.ext hx1)
  obtain ⟨p0, p1, p2⟩ := F1.out
  clear hx1 E0 FB VB RB
  rw [decide_eq_true H1.out]
  go_wp2_with fail
  refine (L1.out _).mono ?_; rintro e w2 ⟨rfl, hx2⟩
  go_wp2_with fail
  refine (fail_any 14 _).mono ?_; rintro e w3 ⟨rfl, hx3⟩
  have E3 := (E1.trans hx2).trans hx3
  have V3 := Lib.hid (V1.out.ext (hx2.trans hx3))
  have R3 := Lib.hid (R1.out.ext (hx2.trans hx3))
  clear E1 V1 R1 F1 p0 p1 p2 hx3 hx2
  obtain ⟨⟨q0, q1⟩, q2, q3⟩ := V3.out
  obtain ⟨g0, g1, g2, g3⟩ := R3.out
  go_wp2
  obtain ⟨e0, e1, e2, e3⟩ := vr_set V3.out R3.out (by omega) 0 0 14 (.slice none 0 0)
  exact bodyPost_ret (v := .tuple #[.agg #[.int .i64 0, .int .i64 0], .agg #[.int .i64 14, .slice none 0 0]]) (by simp [results, Tryd.results49, go_sem, e0, e1, e2, e3]) rfl ⟨_, _, _, _, by rw [HX.out.1, HX.out.2], (((E3.setCell (p := ⟨w.heap.size + 1, 0, none⟩) (Nat.le_succ _) _).setCell (p := ⟨w.heap.size + 1, 1, none⟩) (Nat.le_succ _) _).setCell (p := ⟨w.heap.size + 2, 0, none⟩) (by simp) _).setCell (p := ⟨w.heap.size + 2, 1, none⟩) (by simp) _, by rw [HR.out]; exact RErrIs.code (by decide)⟩
set_option maxHeartbeats 8000000 in
set_option maxRecDepth 20000 in
theorem rsearch_smp (W H x y reach : Int) (zs bs : List Int) (a a2 : Option Addr) (n cap n2 cap2 : Nat) (w : World) (h : Ints w (.slice a n cap) zs) (hb : Ints w (.slice a2 n2 cap2) bs) (hm : may W H zs) (hr : rngOk W H x y reach) (hl : bs.length = 64) (ha : bs.any nosmpB = true) :
    Calls Tryd.prog 49 #[.agg #[.int .i64 W, .int .i64 H, .slice a n cap], .slice a2 n2 cap2, .int .i64 x, .int .i64 y, .int .i64 reach] w (RVPost w (srX W H zs bs x y reach) (srY W H zs bs x y reach) (srE W H zs bs x y reach)) := by
  have M1 := Lib.hid (fun w h => rmay_any W H zs a n cap w h)
  have H1 := Lib.hid hm
  have HR : Hid (srE W H zs bs x y reach = range) := by show _ = _; unfold srE; rw [if_pos hm, if_pos hr, if_pos hl, if_pos ha]
  have HX : Hid (srX W H zs bs x y reach = 0 ∧ srY W H zs bs x y reach = 0) := by unfold srX srY; rw [HR.out]; exact ⟨rfl, rfl⟩
  have hl2 := hb.len
  have b1 : ((n2 : Int) != 64) = false := by rw [bne_eq_false_iff_eq]; omega
  have HN := Lib.hid (fun w h => by have := within_any bs 0 255 (.slice a2 n2 cap2) w h; rwa [decide_eq_false (fun hw => by rw [within_nosmp hw] at ha; cases ha)] at this)
  clear hl hl2 hm ha
  have hW := sideB_true H1.out.1
  have hH := sideB_true H1.out.2.1
  obtain ⟨hW1, hW2, -⟩ := hW
  obtain ⟨hH1, hH2, -⟩ := hH
  unfold rngOk at hr
  have hlb : liesB W H x y 8 = true := by unfold liesB; simp; omega
  have L1 := Lib.hid (fun w => by have := lies_any W H x y 8 (.slice a n cap) a n cap w rfl (by omega) (by omega) (by omega); rwa [hlb] at this)
  obtain ⟨⟨r1, r2⟩, ⟨x1, x2⟩, y1, y2⟩ := hr
  clear hlb
  obtain ⟨F0, V0, R0⟩ := RS.new w W H (.slice a n cap)
  have E0 : Ext w (((w.alloc (.cells #[.int .i64 W, .int .i64 H, .slice a n cap] 67)).alloc (.cells #[.int .i64 0, .int .i64 0] 69)).alloc (.cells #[.int .i64 0, .slice none 0 0] 39)) := (by repeat (first | exact Ext.refl _ | assumption | refine Ext.alloc ?_ _ | refine Ext.drew ?_ | refine Ext.drewN ?_ _ | refine Ext.setCell ?_ (by first | exact Nat.le_refl _ | (simp; done) | omega) _ | refine Ext.trans ?_ (by assumption)))
  go_enter Tryd.func49, Tryd.ntmps49
  go_wp2_with fail
  revert F0 V0 R0 E0
  generalize ((w.alloc (.cells #[.int .i64 W, .int .i64 H, .slice a n cap] 67)).alloc (.cells #[.int .i64 0, .int .i64 0] 69)).alloc (.cells #[.int .i64 0, .slice none 0 0] 39) = w0
  intro F0 V0 R0 E0
  have FB := Lib.hid F0
  have VB := Lib.hid V0
  have RB := Lib.hid R0
  clear F0 V0 R0
  refine (M1.out _ (h.ext E0)).mono ?_; rintro e w1 ⟨rfl, hx1⟩
  have E1 := E0.trans hx1
  have F1 := Lib.hid (FB.out.ext hx1)
  have V1 := Lib.hid (VB.out.ext hx1)
  have R1 := Lib.hid (RB.out.ext hx1)
  obtain ⟨p0, p1, p2⟩ := F1.out
  clear hx1 E0 FB VB RB
  rw [decide_eq_true H1.out]
  go_wp2_with fail
  refine (L1.out _).mono ?_; rintro e w2 ⟨rfl, hx2⟩
  go_wp2_with fail
  refine (HN.out _ (hb.ext (E1.trans hx2))).mono ?_; rintro e w4 ⟨rfl, hx4⟩
  go_wp2_with fail
  refine (fail_any 3 _).mono ?_; rintro e w3 ⟨rfl, hx3⟩
  have E3 := ((E1.trans hx2).trans hx4).trans hx3
  have V3 := Lib.hid (V1.out.ext ((hx2.trans hx4).trans hx3))
  have R3 := Lib.hid (R1.out.ext ((hx2.trans hx4).trans hx3))
  clear E1 V1 R1 F1 p0 p1 p2 hx3 hx4 hx2
  obtain ⟨⟨q0, q1⟩, q2, q3⟩ := V3.out
  obtain ⟨g0, g1, g2, g3⟩ := R3.out
  go_wp2
  obtain ⟨e0, e1, e2, e3⟩ := vr_set V3.out R3.out (by omega) 0 0 3 (.slice none 0 0)
  exact bodyPost_ret (v := .tuple #[.agg #[.int .i64 0, .int .i64 0], .agg #[.int .i64 3, .slice none 0 0]]) (by simp [results, Tryd.results49, go_sem, e0, e1, e2, e3]) rfl ⟨_, _, _, _, by rw [HX.out.1, HX.out.2], (((E3.setCell (p := ⟨w.heap.size + 1, 0, none⟩) (Nat.le_succ _) _).setCell (p := ⟨w.heap.size + 1, 1, none⟩) (Nat.le_succ _) _).setCell (p := ⟨w.heap.size + 2, 0, none⟩) (by simp) _).setCell (p := ⟨w.heap.size + 2, 1, none⟩) (by simp) _, by rw [HR.out]; exact RErrIs.code (by decide)⟩
end Go.Proofs.YtaamnpbhmckpbaaDoor
