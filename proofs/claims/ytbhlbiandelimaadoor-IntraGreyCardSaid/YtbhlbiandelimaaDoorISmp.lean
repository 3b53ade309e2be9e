/- kinlaw10.IntraSamples: the walk. -/
import Derived.Test.YtbhlbiandelimaaDoorIn2
namespace Go.Proofs.YtbhlbiandelimaaDoor
set_option linter.unusedVariables false
set_option linter.unusedSimpArgs false
open Go.RowKit Go.Extern.Stop Go.Stop Go.Extern

theorem rowL_mem {N : Nat} {f : Nat → Int} {x : Int} (h : x ∈ rowL N f) : ∃ j, j < N ∧ x = f j := by
  unfold rowL at h
  obtain ⟨j, hj, rfl⟩ := List.mem_map.1 h
  exact ⟨j, List.mem_range.1 hj, rfl⟩
theorem clipI_bd (x : Int) : 0 ≤ clipI x ∧ clipI x ≤ 255 := by unfold clipI; omega
theorem meanOf_bd {ts ls : List Int} {c : Int} (h : chkAns ts ls c = none) : 0 ≤ meanOf ts ls ∧ meanOf ts ls ≤ 255 := by
  obtain ⟨h1, h2, h3, h4, h5⟩ := chkAns_none h
  have b := nbF_bound h3 h4 ts.length
  unfold meanOf
  rcases h1 with h1 | h1 <;> rw [h1] at b ⊢ <;> push_cast at b ⊢ <;> omega
theorem prdF_bd {m : Int} {ts ls : List Int} {c : Int} (h : chkAns ts ls c = none) (k : Nat) : 0 ≤ prdF m ts ls c k ∧ prdF m ts ls c k ≤ 255 := by
  obtain ⟨h1, h2, h3, h4, h5⟩ := chkAns_none h
  unfold prdF
  split
  · exact meanOf_bd h
  · split
    · exact h3 _
    · split
      · exact h4 _
      · exact clipI_bd _
theorem prdL_within {m : Int} {ts ls : List Int} {c : Int} (h : chkAns ts ls c = none) : within 0 255 (prdL m ts ls c) := fun x hx => by
  obtain ⟨j, _, rfl⟩ := rowL_mem hx
  exact prdF_bd h j
theorem prdL_len (m : Int) (ts ls : List Int) (c : Int) : (prdL m ts ls c).length = ts.length * ts.length := rowL_length _ _
theorem flat_get {N : Nat} {v : Int} {j : Nat} (h : j < N) : (rowL N fun _ => v).getD j 0 = v := getD_of_get (rowL_get h)
theorem flat_any {N : Nat} {v : Int} (h : 0 ≤ v ∧ v ≤ 255) : (rowL N fun _ => v).any nosmpB = false := any_no (fun j x _ hx => by
  obtain ⟨i, _, rfl⟩ := rowL_mem (List.mem_of_getElem? hx)
  unfold nosmpB
  simp
  omega)
theorem nbF_flat {v : Int} (N n : Nat) (h : n ≤ N) : nbF (fun i => (rowL N fun _ => v).getD i 0) (fun i => (rowL N fun _ => v).getD i 0) n = 2 * v * n := by
  induction n with
  | zero => simp [nbF]
  | succ n ih =>
    unfold nbF
    rw [ih (by omega), flat_get (by omega)]
    push_cast
    rw [Int.mul_add]
    omega
theorem flat_chk {N : Nat} {v : Int} (hN : N = 4 ∨ N = 8) (h : 0 ≤ v ∧ v ≤ 255) : chkAns (rowL N fun _ => v) (rowL N fun _ => v) v = none := by
  unfold chkAns
  rw [rowL_length, if_pos ⟨by rcases hN with rfl | rfl <;> rfl, rfl⟩, if_neg]
  rw [flat_any h]
  unfold nosmpB
  simp
  omega
theorem flat_prd {N : Nat} {v m : Int} (hN : N = 4 ∨ N = 8) (h : 0 ≤ v ∧ v ≤ 255) (hm : 0 ≤ m ∧ m ≤ 3) : prdL m (rowL N fun _ => v) (rowL N fun _ => v) v = rowL (N * N) fun _ => v := by
  unfold prdL
  rw [rowL_length]
  unfold rowL
  apply List.map_congr_left
  intro k hk
  have hk := List.mem_range.1 hk
  have e1 : k % N < N := Nat.mod_lt _ (by omega)
  have e2 : k / N < N := Nat.div_lt_of_lt_mul hk
  show prdF m (rowL N fun _ => v) (rowL N fun _ => v) v k = v
  unfold prdF
  rw [rowL_length, flat_get e1, flat_get e2]
  split
  · unfold meanOf
    rw [rowL_length, nbF_flat N N (Nat.le_refl _)]
    rcases hN with rfl | rfl <;> push_cast <;> omega
  · split
    · rfl
    · split
      · rfl
      · unfold clipI; omega
set_option maxHeartbeats 2000000 in
set_option maxRecDepth 20000 in
theorem samples_long (mo : Int) (a b : Option Addr) (n m ca cb : Nat) (c v : Int) (w : World) (hg : EtIs w) (hl : 5000 < n ∨ ¬ 5000 < n ∧ 5000 < m) :
    Calls Tryd.prog 6 #[.int .i64 mo, .slice a n ca, .slice b m cb, .int .i64 c, .int .i64 v] w fun e w' => e = .returned (.bool true) ∧ Ext w w' := by
  rcases hl with h1 | ⟨h1, h2⟩
  all_goals
    go_enter Tryd.func6, Tryd.ntmps6
    go_wp2_with fail
    refine (first10_any _ hg).mono ?_; rintro e w1 ⟨rfl, hx1⟩
    go_wp2_with fail
    refine (first10_any _ (hg.ext (by repeat (first | exact Ext.refl _ | assumption | refine Ext.alloc ?_ _ | refine Ext.drew ?_ | refine Ext.drewN ?_ _ | refine Ext.setCell ?_ (by first | exact Nat.le_refl _ | (simp; done) | omega) _ | refine Ext.trans ?_ (by assumption))))).mono ?_; rintro e w2 ⟨rfl, hx2⟩
    go_wp2
    go_ret
    exact ⟨rfl, (by repeat (first | exact Ext.refl _ | assumption | refine Ext.alloc ?_ _ | refine Ext.drew ?_ | refine Ext.drewN ?_ _ | refine Ext.setCell ?_ (by first | exact Nat.le_refl _ | (simp; done) | omega) _ | refine Ext.trans ?_ (by assumption)))⟩
theorem zeros_rowi (n : Nat) : (madeCells (Value.int .i64 0).cells (n * 1)).toList = (rowL n fun _ => 0).map (Value.int .i64) := by
  apply List.ext_getElem?
  intro j
  by_cases hj : j < n <;> simp [madeCells, rowL, Value.cells, hj, Nat.mod_one]
theorem rowL_congri {N : Nat} {f g : Nat → Int} (h : ∀ j, j < N → f j = g j) : rowL N f = rowL N g := by
  unfold rowL
  apply List.map_congr_left
  intro j hj
  exact h j (List.mem_range.1 hj)
set_option maxHeartbeats 8000000 in
set_option maxRecDepth 20000 in
theorem samples_some_bad (mo c v : Int) (ts ls A : List Int) (f : List (ByteArray × Int) × Int) (a b : Option Addr) (n m ca cb : Nat) (w : World) (hg : EtIs w) (ha : Ints w (.slice a n ca) ts) (hb : Ints w (.slice b m cb) ls) (h1 : ¬ 5000 < n) (h2 : ¬ 5000 < m)
    (P0 : Hid (∀ u u' W, Ints W u ts → Ints W u' ls → Calls Tryd.prog 22 #[.int .i64 mo, u, u', .int .i64 c] W (ZPost W A (some f)))) (AL : Hid ((some f : Fall) = none → A.length = n ∧ within 0 255 A))
    (hv : v < 0 ∨ ¬ v < 0 ∧ 255 < v) :
    Calls Tryd.prog 6 #[.int .i64 mo, .slice a n ca, .slice b m cb, .int .i64 c, .int .i64 v] w fun e w' => e = .returned (.bool true) ∧ Ext w w' := by
  obtain ⟨i0, iz, iz0, iz1, iz2⟩ := info_parts infoInt
  rcases hv with hv | ⟨hv, hv'⟩
  all_goals
    go_enter Tryd.func6, Tryd.ntmps6
    go_wp2_with fail
    refine (first10_any _ hg).mono ?_; rintro e w1 ⟨rfl, hx1⟩
    go_wp2_with fail
    refine (P0.out _ _ _ (ha.ext (by repeat (first | exact Ext.refl _ | assumption | refine Ext.alloc ?_ _ | refine Ext.drew ?_ | refine Ext.drewN ?_ _ | refine Ext.setCell ?_ (by first | exact Nat.le_refl _ | (simp; done) | omega) _ | refine Ext.trans ?_ (by assumption)))) (hb.ext (by repeat (first | exact Ext.refl _ | assumption | refine Ext.alloc ?_ _ | refine Ext.drew ?_ | refine Ext.drewN ?_ _ | refine Ext.setCell ?_ (by first | exact Nat.le_refl _ | (simp; done) | omega) _ | refine Ext.trans ?_ (by assumption))))).mono ?_; rintro e w2 ⟨u2, x2, rfl, hx2, hz2, he2⟩
    obtain ⟨t2, y2, rfl⟩ := he2.ne
    go_wp2_with fail
    refine (first10_any _ (hg.ext (by repeat (first | exact Ext.refl _ | assumption | refine Ext.alloc ?_ _ | refine Ext.drew ?_ | refine Ext.drewN ?_ _ | refine Ext.setCell ?_ (by first | exact Nat.le_refl _ | (simp; done) | omega) _ | refine Ext.trans ?_ (by assumption))))).mono ?_; rintro e w9 ⟨rfl, hx9⟩
    go_wp2
    go_ret
    exact ⟨rfl, (by repeat (first | exact Ext.refl _ | assumption | refine Ext.alloc ?_ _ | refine Ext.drew ?_ | refine Ext.drewN ?_ _ | refine Ext.setCell ?_ (by first | exact Nat.le_refl _ | (simp; done) | omega) _ | refine Ext.trans ?_ (by assumption)))⟩
set_option maxHeartbeats 8000000 in
set_option maxRecDepth 20000 in
theorem samples_some_ok (mo c v : Int) (ts ls A : List Int) (f : List (ByteArray × Int) × Int) (a b : Option Addr) (n m ca cb : Nat) (w : World) (hg : EtIs w) (ha : Ints w (.slice a n ca) ts) (hb : Ints w (.slice b m cb) ls) (h1 : ¬ 5000 < n) (h2 : ¬ 5000 < m)
    (P0 : Hid (∀ u u' W, Ints W u ts → Ints W u' ls → Calls Tryd.prog 22 #[.int .i64 mo, u, u', .int .i64 c] W (ZPost W A (some f)))) (AL : Hid ((some f : Fall) = none → A.length = n ∧ within 0 255 A))
    (hv : 0 ≤ v ∧ v ≤ 255) (P : Hid (∀ N, (N = 4 ∨ N = 8) → ∀ k : Int, 0 ≤ k ∧ k ≤ 3 → ∀ u u' W, Ints W u (rowL N fun _ => v) → Ints W u' (rowL N fun _ => v) → Calls Tryd.prog 22 #[.int .i64 k, u, u', .int .i64 v] W (ZPost W (rowL (N * N) fun _ => v) none))) :
    Calls Tryd.prog 6 #[.int .i64 mo, .slice a n ca, .slice b m cb, .int .i64 c, .int .i64 v] w fun e w' => e = .returned (.bool true) ∧ Ext w w' := by
  obtain ⟨i0, iz, iz0, iz1, iz2⟩ := info_parts infoInt
  go_enter Tryd.func6, Tryd.ntmps6
  go_wp2_with fail
  refine (first10_any _ hg).mono ?_; rintro e w1 ⟨rfl, hx1⟩
  go_wp2_with fail
  refine (P0.out _ _ _ (ha.ext (by repeat (first | exact Ext.refl _ | assumption | refine Ext.alloc ?_ _ | refine Ext.drew ?_ | refine Ext.drewN ?_ _ | refine Ext.setCell ?_ (by first | exact Nat.le_refl _ | (simp; done) | omega) _ | refine Ext.trans ?_ (by assumption)))) (hb.ext (by repeat (first | exact Ext.refl _ | assumption | refine Ext.alloc ?_ _ | refine Ext.drew ?_ | refine Ext.drewN ?_ _ | refine Ext.setCell ?_ (by first | exact Nat.le_refl _ | (simp; done) | omega) _ | refine Ext.trans ?_ (by assumption))))).mono ?_; rintro e w2 ⟨u2, x2, rfl, hx2, hz2, he2⟩
  obtain ⟨t2, y2, rfl⟩ := he2.ne
  go_wp2
  go_loopw [13] (fun iv wr => ∃ k : Int, (k = 4 ∨ k = 8 ∨ k = 12) ∧ iv = .int .i64 k ∧ Ext w wr) (fun iv _ => 12 - (intOf iv).toNat)
  case atStart => exact ⟨4, Or.inl rfl, rfl, (by repeat (first | exact Ext.refl _ | assumption | refine Ext.alloc ?_ _ | refine Ext.drew ?_ | refine Ext.drewN ?_ _ | refine Ext.setCell ?_ (by first | exact Nat.le_refl _ | (simp; done) | omega) _ | refine Ext.trans ?_ (by assumption)))⟩
  case round =>
    obtain ⟨k, hk, rfl, hE⟩ := hrel
    have hB := hE.size
    rcases hk with rfl | rfl | rfl
    · skip
      go_wp2_with (at_make; refine wpList_make_full _ rfl _ _ 22 rfl w.heap.size 3 i0 (.int .i64 0) 1 Tryd.underlying22 iz iz0 iz1 .i64 .i64 _ _ 4 rfl rfl rfl rfl (by rw [iz2]; omega) (by unfold maxLen; omega) hB ?_; intro w3 hown hgrow)
      have hE3 : Ext w w3 := Below.grown hE hgrow hB (fun k hk => by cases hk)
      rw [zeros_rowi] at hown
      clear hgrow hE hB
      obtain ⟨G, hG⟩ : ∃ G, G = wr.heap.size := ⟨_, rfl⟩
      obtain ⟨gg, gc, eg, hgb, -, -, -⟩ := own_form hown (by decide)
      simp only [Value.slice.injEq, Option.some.injEq, Addr.mk.injEq, and_true, true_and] at eg
      obtain ⟨rfl, rfl⟩ := eg
      rw [← hG] at hown hgb ⊢
      clear hG
      go_wp2
      go_loopw [15] (fun iv wq => ∃ k : Nat, k ≤ 4 ∧ iv = .int .i64 k ∧ Hid (wq.ownsRow w.heap.size 3 1 (.slice (some ⟨G, 0, none⟩) 4 4) 4 ((rowL 4 fun j => if j < k then v else 0).map (Value.int .i64))) ∧ Ext w wq) (fun iv _ => 4 - (intOf iv).toNat)
      case atStart => exact ⟨0, Nat.zero_le _, rfl, by show World.ownsRow _ _ _ _ _ _ _; simpa using hown, hE3⟩
      case round =>
        clear hown hE3
        obtain ⟨k, hk, rfl, HO, hE⟩ := hrel
        by_cases hlt : k < 4
        · obtain ⟨cz, fz⟩ := own_cell HO.out hlt
          rw [if_neg (Nat.lt_irrefl _)] at cz
          have t4 : decide ((k : Int) < 4) = true := decide_eq_true (by omega)
          go_wp2
          go_roundw
          case rel =>
            refine ⟨k + 1, by omega, by go_num, ?_, Below.setCell hE hgb _⟩
            have h := own_set (x := v) HO.out hlt
            rw [rowL_congri (g := fun j => if j < k + 1 then v else 0) (fun i _ => by
              by_cases hik : i = k
              · subst hik
                rw [if_pos rfl, if_pos (by omega)]
              · rw [if_neg hik]
                by_cases h2 : i < k
                · rw [if_pos h2, if_pos (by omega)]
                · rw [if_neg h2, if_neg (by omega)])] at h
            exact h
          case measure => simp [intOf]; omega
        · obtain rfl : k = 4 := by omega
          have ho := HO.out
          rw [rowL_congri (g := fun _ => v) (fun j hj => by rw [if_pos hj])] at ho
          have HI := Lib.hid (Ints.of_row ho (by decide))
          have P1 := Lib.hid (P.out 4 (Or.inl rfl))
          clear HO ho
          go_wp2
          go_loopw [16] (fun iv wz => ∃ k : Nat, k ≤ 4 ∧ iv = .int .i64 k ∧ Ext wr wz) (fun iv _ => 4 - (intOf iv).toNat)
          case atStart => exact ⟨0, Nat.zero_le _, rfl, Ext.refl _⟩
          case round =>
            obtain ⟨k, hk, rfl, hz⟩ := hrel
            by_cases hlt : k < 4
            · have t4 : decide ((k : Int) < 4) = true := decide_eq_true (by omega)
              have P2 := Lib.hid (P1.out (k : Int) (by omega))
              go_wp2_with fail
              refine (P2.out _ _ _ (HI.out.ext hz) (HI.out.ext hz)).mono ?_; rintro e w5 ⟨u5, x5, rfl, hx5, hz5, he5⟩
              obtain rfl : x5 = .nilIface := he5
              obtain ⟨a5, c5, e5⟩ := hz5.form
              rw [rowL_length] at e5
              subst e5
              go_wp2_with fail
              refine (within_any _ v v _ _ hz5).mono ?_; rintro e w6 ⟨rfl, hx6⟩
              rw [decide_eq_true (p := within v v _) (fun x hx => by obtain ⟨j, _, rfl⟩ := rowL_mem hx; exact ⟨Int.le_refl _, Int.le_refl _⟩)]
              have E6 := hz.trans (hx5.trans hx6)
              go_wp2
              go_roundw
              case rel =>
                repeat apply Exists.intro
                exact ⟨⟨k + 1, by omega, by go_num, E6⟩, rfl⟩
              case measure => simp [intOf]; omega
            · have E7 := hE.trans hz
              go_wp2
              go_roundw
              case rel => exact ⟨8, by decide, rfl, E7⟩
              case measure => simp [intOf]
    · skip
      go_wp2_with (at_make; refine wpList_make_full _ rfl _ _ 22 rfl w.heap.size 3 i0 (.int .i64 0) 1 Tryd.underlying22 iz iz0 iz1 .i64 .i64 _ _ 8 rfl rfl rfl rfl (by rw [iz2]; omega) (by unfold maxLen; omega) hB ?_; intro w3 hown hgrow)
      have hE3 : Ext w w3 := Below.grown hE hgrow hB (fun k hk => by cases hk)
      rw [zeros_rowi] at hown
      clear hgrow hE hB
      obtain ⟨G, hG⟩ : ∃ G, G = wr.heap.size := ⟨_, rfl⟩
      obtain ⟨gg, gc, eg, hgb, -, -, -⟩ := own_form hown (by decide)
      simp only [Value.slice.injEq, Option.some.injEq, Addr.mk.injEq, and_true, true_and] at eg
      obtain ⟨rfl, rfl⟩ := eg
      rw [← hG] at hown hgb ⊢
      clear hG
      go_wp2
      go_loopw [15] (fun iv wq => ∃ k : Nat, k ≤ 8 ∧ iv = .int .i64 k ∧ Hid (wq.ownsRow w.heap.size 3 1 (.slice (some ⟨G, 0, none⟩) 8 8) 8 ((rowL 8 fun j => if j < k then v else 0).map (Value.int .i64))) ∧ Ext w wq) (fun iv _ => 8 - (intOf iv).toNat)
      case atStart => exact ⟨0, Nat.zero_le _, rfl, by show World.ownsRow _ _ _ _ _ _ _; simpa using hown, hE3⟩
      case round =>
        clear hown hE3
        obtain ⟨k, hk, rfl, HO, hE⟩ := hrel
        by_cases hlt : k < 8
        · obtain ⟨cz, fz⟩ := own_cell HO.out hlt
          rw [if_neg (Nat.lt_irrefl _)] at cz
          have t4 : decide ((k : Int) < 8) = true := decide_eq_true (by omega)
          go_wp2
          go_roundw
          case rel =>
            refine ⟨k + 1, by omega, by go_num, ?_, Below.setCell hE hgb _⟩
            have h := own_set (x := v) HO.out hlt
            rw [rowL_congri (g := fun j => if j < k + 1 then v else 0) (fun i _ => by
              by_cases hik : i = k
              · subst hik
                rw [if_pos rfl, if_pos (by omega)]
              · rw [if_neg hik]
                by_cases h2 : i < k
                · rw [if_pos h2, if_pos (by omega)]
                · rw [if_neg h2, if_neg (by omega)])] at h
            exact h
          case measure => simp [intOf]; omega
        · obtain rfl : k = 8 := by omega
          have ho := HO.out
          rw [rowL_congri (g := fun _ => v) (fun j hj => by rw [if_pos hj])] at ho
          have HI := Lib.hid (Ints.of_row ho (by decide))
          have P1 := Lib.hid (P.out 8 (Or.inr rfl))
          clear HO ho
          go_wp2
          go_loopw [16] (fun iv wz => ∃ k : Nat, k ≤ 4 ∧ iv = .int .i64 k ∧ Ext wr wz) (fun iv _ => 4 - (intOf iv).toNat)
          case atStart => exact ⟨0, Nat.zero_le _, rfl, Ext.refl _⟩
          case round =>
            obtain ⟨k, hk, rfl, hz⟩ := hrel
            by_cases hlt : k < 4
            · have t4 : decide ((k : Int) < 4) = true := decide_eq_true (by omega)
              have P2 := Lib.hid (P1.out (k : Int) (by omega))
              go_wp2_with fail
              refine (P2.out _ _ _ (HI.out.ext hz) (HI.out.ext hz)).mono ?_; rintro e w5 ⟨u5, x5, rfl, hx5, hz5, he5⟩
              obtain rfl : x5 = .nilIface := he5
              obtain ⟨a5, c5, e5⟩ := hz5.form
              rw [rowL_length] at e5
              subst e5
              go_wp2_with fail
              refine (within_any _ v v _ _ hz5).mono ?_; rintro e w6 ⟨rfl, hx6⟩
              rw [decide_eq_true (p := within v v _) (fun x hx => by obtain ⟨j, _, rfl⟩ := rowL_mem hx; exact ⟨Int.le_refl _, Int.le_refl _⟩)]
              have E6 := hz.trans (hx5.trans hx6)
              go_wp2
              go_roundw
              case rel =>
                repeat apply Exists.intro
                exact ⟨⟨k + 1, by omega, by go_num, E6⟩, rfl⟩
              case measure => simp [intOf]; omega
            · have E7 := hE.trans hz
              go_wp2
              go_roundw
              case rel => exact ⟨12, by decide, rfl, E7⟩
              case measure => simp [intOf]
    · go_wp2_with fail
      refine (first10_any _ (hg.ext hE)).mono ?_; rintro e w9 ⟨rfl, hx9⟩
      go_wp2
      go_ret
      exact ⟨rfl, hE.trans hx9⟩
set_option maxHeartbeats 8000000 in
set_option maxRecDepth 20000 in
theorem samples_four_bad (mo c v : Int) (ts ls A : List Int) (f : List (ByteArray × Int) × Int) (a b : Option Addr) (n m ca cb : Nat) (w : World) (hg : EtIs w) (ha : Ints w (.slice a 4 ca) ts) (hb : Ints w (.slice b m cb) ls) (h1 : ¬ 5000 < n) (h2 : ¬ 5000 < m)
    (P0 : Hid (∀ u u' W, Ints W u ts → Ints W u' ls → Calls Tryd.prog 22 #[.int .i64 mo, u, u', .int .i64 c] W (ZPost W A (none)))) (AL : Hid ((none : Fall) = none → A.length = 16 ∧ within 0 255 A))
    (hv : v < 0 ∨ ¬ v < 0 ∧ 255 < v) :
    Calls Tryd.prog 6 #[.int .i64 mo, .slice a 4 ca, .slice b m cb, .int .i64 c, .int .i64 v] w fun e w' => e = .returned (.bool true) ∧ Ext w w' := by
  obtain ⟨i0, iz, iz0, iz1, iz2⟩ := info_parts infoInt
  rcases hv with hv | ⟨hv, hv'⟩
  all_goals
    have AL2 := Lib.hid (AL.out rfl)
    clear AL
    go_enter Tryd.func6, Tryd.ntmps6
    go_wp2_with fail
    refine (first10_any _ hg).mono ?_; rintro e w1 ⟨rfl, hx1⟩
    go_wp2_with fail
    refine (P0.out _ _ _ (ha.ext (by repeat (first | exact Ext.refl _ | assumption | refine Ext.alloc ?_ _ | refine Ext.drew ?_ | refine Ext.drewN ?_ _ | refine Ext.setCell ?_ (by first | exact Nat.le_refl _ | (simp; done) | omega) _ | refine Ext.trans ?_ (by assumption)))) (hb.ext (by repeat (first | exact Ext.refl _ | assumption | refine Ext.alloc ?_ _ | refine Ext.drew ?_ | refine Ext.drewN ?_ _ | refine Ext.setCell ?_ (by first | exact Nat.le_refl _ | (simp; done) | omega) _ | refine Ext.trans ?_ (by assumption))))).mono ?_; rintro e w2 ⟨u2, x2, rfl, hx2, hz2, he2⟩
    obtain rfl : x2 = .nilIface := he2
    obtain ⟨a2, c2, e2⟩ := hz2.form
    rw [AL2.out.1] at e2
    subst e2
    go_wp2_with fail
    refine (within_any _ 0 255 _ _ (hz2.ext (by repeat (first | exact Ext.refl _ | assumption | refine Ext.alloc ?_ _ | refine Ext.drew ?_ | refine Ext.drewN ?_ _ | refine Ext.setCell ?_ (by first | exact Nat.le_refl _ | (simp; done) | omega) _ | refine Ext.trans ?_ (by assumption))))).mono ?_; rintro e w3 ⟨rfl, hx3⟩
    rw [decide_eq_true AL2.out.2]
    go_wp2_with fail
    refine (first10_any _ (hg.ext (by repeat (first | exact Ext.refl _ | assumption | refine Ext.alloc ?_ _ | refine Ext.drew ?_ | refine Ext.drewN ?_ _ | refine Ext.setCell ?_ (by first | exact Nat.le_refl _ | (simp; done) | omega) _ | refine Ext.trans ?_ (by assumption))))).mono ?_; rintro e w9 ⟨rfl, hx9⟩
    go_wp2
    go_ret
    exact ⟨rfl, (by repeat (first | exact Ext.refl _ | assumption | refine Ext.alloc ?_ _ | refine Ext.drew ?_ | refine Ext.drewN ?_ _ | refine Ext.setCell ?_ (by first | exact Nat.le_refl _ | (simp; done) | omega) _ | refine Ext.trans ?_ (by assumption)))⟩
set_option maxHeartbeats 8000000 in
set_option maxRecDepth 20000 in
theorem samples_four_ok (mo c v : Int) (ts ls A : List Int) (f : List (ByteArray × Int) × Int) (a b : Option Addr) (n m ca cb : Nat) (w : World) (hg : EtIs w) (ha : Ints w (.slice a 4 ca) ts) (hb : Ints w (.slice b m cb) ls) (h1 : ¬ 5000 < n) (h2 : ¬ 5000 < m)
    (P0 : Hid (∀ u u' W, Ints W u ts → Ints W u' ls → Calls Tryd.prog 22 #[.int .i64 mo, u, u', .int .i64 c] W (ZPost W A (none)))) (AL : Hid ((none : Fall) = none → A.length = 16 ∧ within 0 255 A))
    (hv : 0 ≤ v ∧ v ≤ 255) (P : Hid (∀ N, (N = 4 ∨ N = 8) → ∀ k : Int, 0 ≤ k ∧ k ≤ 3 → ∀ u u' W, Ints W u (rowL N fun _ => v) → Ints W u' (rowL N fun _ => v) → Calls Tryd.prog 22 #[.int .i64 k, u, u', .int .i64 v] W (ZPost W (rowL (N * N) fun _ => v) none))) :
    Calls Tryd.prog 6 #[.int .i64 mo, .slice a 4 ca, .slice b m cb, .int .i64 c, .int .i64 v] w fun e w' => e = .returned (.bool true) ∧ Ext w w' := by
  obtain ⟨i0, iz, iz0, iz1, iz2⟩ := info_parts infoInt
  have AL2 := Lib.hid (AL.out rfl)
  clear AL
  go_enter Tryd.func6, Tryd.ntmps6
  go_wp2_with fail
  refine (first10_any _ hg).mono ?_; rintro e w1 ⟨rfl, hx1⟩
  go_wp2_with fail
  refine (P0.out _ _ _ (ha.ext (by repeat (first | exact Ext.refl _ | assumption | refine Ext.alloc ?_ _ | refine Ext.drew ?_ | refine Ext.drewN ?_ _ | refine Ext.setCell ?_ (by first | exact Nat.le_refl _ | (simp; done) | omega) _ | refine Ext.trans ?_ (by assumption)))) (hb.ext (by repeat (first | exact Ext.refl _ | assumption | refine Ext.alloc ?_ _ | refine Ext.drew ?_ | refine Ext.drewN ?_ _ | refine Ext.setCell ?_ (by first | exact Nat.le_refl _ | (simp; done) | omega) _ | refine Ext.trans ?_ (by assumption))))).mono ?_; rintro e w2 ⟨u2, x2, rfl, hx2, hz2, he2⟩
  obtain rfl : x2 = .nilIface := he2
  obtain ⟨a2, c2, e2⟩ := hz2.form
  rw [AL2.out.1] at e2
  subst e2
  go_wp2_with fail
  refine (within_any _ 0 255 _ _ (hz2.ext (by repeat (first | exact Ext.refl _ | assumption | refine Ext.alloc ?_ _ | refine Ext.drew ?_ | refine Ext.drewN ?_ _ | refine Ext.setCell ?_ (by first | exact Nat.le_refl _ | (simp; done) | omega) _ | refine Ext.trans ?_ (by assumption))))).mono ?_; rintro e w3 ⟨rfl, hx3⟩
  rw [decide_eq_true AL2.out.2]
  go_wp2
  go_loopw [13] (fun iv wr => ∃ k : Int, (k = 4 ∨ k = 8 ∨ k = 12) ∧ iv = .int .i64 k ∧ Ext w wr) (fun iv _ => 12 - (intOf iv).toNat)
  case atStart => exact ⟨4, Or.inl rfl, rfl, (by repeat (first | exact Ext.refl _ | assumption | refine Ext.alloc ?_ _ | refine Ext.drew ?_ | refine Ext.drewN ?_ _ | refine Ext.setCell ?_ (by first | exact Nat.le_refl _ | (simp; done) | omega) _ | refine Ext.trans ?_ (by assumption)))⟩
  case round =>
    obtain ⟨k, hk, rfl, hE⟩ := hrel
    have hB := hE.size
    rcases hk with rfl | rfl | rfl
    · skip
      go_wp2_with (at_make; refine wpList_make_full _ rfl _ _ 22 rfl w.heap.size 3 i0 (.int .i64 0) 1 Tryd.underlying22 iz iz0 iz1 .i64 .i64 _ _ 4 rfl rfl rfl rfl (by rw [iz2]; omega) (by unfold maxLen; omega) hB ?_; intro w3 hown hgrow)
      have hE3 : Ext w w3 := Below.grown hE hgrow hB (fun k hk => by cases hk)
      rw [zeros_rowi] at hown
      clear hgrow hE hB
      obtain ⟨G, hG⟩ : ∃ G, G = wr.heap.size := ⟨_, rfl⟩
      obtain ⟨gg, gc, eg, hgb, -, -, -⟩ := own_form hown (by decide)
      simp only [Value.slice.injEq, Option.some.injEq, Addr.mk.injEq, and_true, true_and] at eg
      obtain ⟨rfl, rfl⟩ := eg
      rw [← hG] at hown hgb ⊢
      clear hG
      go_wp2
      go_loopw [15] (fun iv wq => ∃ k : Nat, k ≤ 4 ∧ iv = .int .i64 k ∧ Hid (wq.ownsRow w.heap.size 3 1 (.slice (some ⟨G, 0, none⟩) 4 4) 4 ((rowL 4 fun j => if j < k then v else 0).map (Value.int .i64))) ∧ Ext w wq) (fun iv _ => 4 - (intOf iv).toNat)
      case atStart => exact ⟨0, Nat.zero_le _, rfl, by show World.ownsRow _ _ _ _ _ _ _; simpa using hown, hE3⟩
      case round =>
        clear hown hE3
        obtain ⟨k, hk, rfl, HO, hE⟩ := hrel
        by_cases hlt : k < 4
        · obtain ⟨cz, fz⟩ := own_cell HO.out hlt
          rw [if_neg (Nat.lt_irrefl _)] at cz
          have t4 : decide ((k : Int) < 4) = true := decide_eq_true (by omega)
          go_wp2
          go_roundw
          case rel =>
            refine ⟨k + 1, by omega, by go_num, ?_, Below.setCell hE hgb _⟩
            have h := own_set (x := v) HO.out hlt
            rw [rowL_congri (g := fun j => if j < k + 1 then v else 0) (fun i _ => by
              by_cases hik : i = k
              · subst hik
                rw [if_pos rfl, if_pos (by omega)]
              · rw [if_neg hik]
                by_cases h2 : i < k
                · rw [if_pos h2, if_pos (by omega)]
                · rw [if_neg h2, if_neg (by omega)])] at h
            exact h
          case measure => simp [intOf]; omega
        · obtain rfl : k = 4 := by omega
          have ho := HO.out
          rw [rowL_congri (g := fun _ => v) (fun j hj => by rw [if_pos hj])] at ho
          have HI := Lib.hid (Ints.of_row ho (by decide))
          have P1 := Lib.hid (P.out 4 (Or.inl rfl))
          clear HO ho
          go_wp2
          go_loopw [16] (fun iv wz => ∃ k : Nat, k ≤ 4 ∧ iv = .int .i64 k ∧ Ext wr wz) (fun iv _ => 4 - (intOf iv).toNat)
          case atStart => exact ⟨0, Nat.zero_le _, rfl, Ext.refl _⟩
          case round =>
            obtain ⟨k, hk, rfl, hz⟩ := hrel
            by_cases hlt : k < 4
            · have t4 : decide ((k : Int) < 4) = true := decide_eq_true (by omega)
              have P2 := Lib.hid (P1.out (k : Int) (by omega))
              go_wp2_with fail
              refine (P2.out _ _ _ (HI.out.ext hz) (HI.out.ext hz)).mono ?_; rintro e w5 ⟨u5, x5, rfl, hx5, hz5, he5⟩
              obtain rfl : x5 = .nilIface := he5
              obtain ⟨a5, c5, e5⟩ := hz5.form
              rw [rowL_length] at e5
              subst e5
              go_wp2_with fail
              refine (within_any _ v v _ _ hz5).mono ?_; rintro e w6 ⟨rfl, hx6⟩
              rw [decide_eq_true (p := within v v _) (fun x hx => by obtain ⟨j, _, rfl⟩ := rowL_mem hx; exact ⟨Int.le_refl _, Int.le_refl _⟩)]
              have E6 := hz.trans (hx5.trans hx6)
              go_wp2
              go_roundw
              case rel =>
                repeat apply Exists.intro
                exact ⟨⟨k + 1, by omega, by go_num, E6⟩, rfl⟩
              case measure => simp [intOf]; omega
            · have E7 := hE.trans hz
              go_wp2
              go_roundw
              case rel => exact ⟨8, by decide, rfl, E7⟩
              case measure => simp [intOf]
    · skip
      go_wp2_with (at_make; refine wpList_make_full _ rfl _ _ 22 rfl w.heap.size 3 i0 (.int .i64 0) 1 Tryd.underlying22 iz iz0 iz1 .i64 .i64 _ _ 8 rfl rfl rfl rfl (by rw [iz2]; omega) (by unfold maxLen; omega) hB ?_; intro w3 hown hgrow)
      have hE3 : Ext w w3 := Below.grown hE hgrow hB (fun k hk => by cases hk)
      rw [zeros_rowi] at hown
      clear hgrow hE hB
      obtain ⟨G, hG⟩ : ∃ G, G = wr.heap.size := ⟨_, rfl⟩
      obtain ⟨gg, gc, eg, hgb, -, -, -⟩ := own_form hown (by decide)
      simp only [Value.slice.injEq, Option.some.injEq, Addr.mk.injEq, and_true, true_and] at eg
      obtain ⟨rfl, rfl⟩ := eg
      rw [← hG] at hown hgb ⊢
      clear hG
      go_wp2
      go_loopw [15] (fun iv wq => ∃ k : Nat, k ≤ 8 ∧ iv = .int .i64 k ∧ Hid (wq.ownsRow w.heap.size 3 1 (.slice (some ⟨G, 0, none⟩) 8 8) 8 ((rowL 8 fun j => if j < k then v else 0).map (Value.int .i64))) ∧ Ext w wq) (fun iv _ => 8 - (intOf iv).toNat)
      case atStart => exact ⟨0, Nat.zero_le _, rfl, by show World.ownsRow _ _ _ _ _ _ _; simpa using hown, hE3⟩
      case round =>
        clear hown hE3
        obtain ⟨k, hk, rfl, HO, hE⟩ := hrel
        by_cases hlt : k < 8
        · obtain ⟨cz, fz⟩ := own_cell HO.out hlt
          rw [if_neg (Nat.lt_irrefl _)] at cz
          have t4 : decide ((k : Int) < 8) = true := decide_eq_true (by omega)
          go_wp2
          go_roundw
          case rel =>
            refine ⟨k + 1, by omega, by go_num, ?_, Below.setCell hE hgb _⟩
            have h := own_set (x := v) HO.out hlt
            rw [rowL_congri (g := fun j => if j < k + 1 then v else 0) (fun i _ => by
              by_cases hik : i = k
              · subst hik
                rw [if_pos rfl, if_pos (by omega)]
              · rw [if_neg hik]
                by_cases h2 : i < k
                · rw [if_pos h2, if_pos (by omega)]
                · rw [if_neg h2, if_neg (by omega)])] at h
            exact h
          case measure => simp [intOf]; omega
        · obtain rfl : k = 8 := by omega
          have ho := HO.out
          rw [rowL_congri (g := fun _ => v) (fun j hj => by rw [if_pos hj])] at ho
          have HI := Lib.hid (Ints.of_row ho (by decide))
          have P1 := Lib.hid (P.out 8 (Or.inr rfl))
          clear HO ho
          go_wp2
          go_loopw [16] (fun iv wz => ∃ k : Nat, k ≤ 4 ∧ iv = .int .i64 k ∧ Ext wr wz) (fun iv _ => 4 - (intOf iv).toNat)
          case atStart => exact ⟨0, Nat.zero_le _, rfl, Ext.refl _⟩
          case round =>
            obtain ⟨k, hk, rfl, hz⟩ := hrel
            by_cases hlt : k < 4
            · have t4 : decide ((k : Int) < 4) = true := decide_eq_true (by omega)
              have P2 := Lib.hid (P1.out (k : Int) (by omega))
              go_wp2_with fail
              refine (P2.out _ _ _ (HI.out.ext hz) (HI.out.ext hz)).mono ?_; rintro e w5 ⟨u5, x5, rfl, hx5, hz5, he5⟩
              obtain rfl : x5 = .nilIface := he5
              obtain ⟨a5, c5, e5⟩ := hz5.form
              rw [rowL_length] at e5
              subst e5
              go_wp2_with fail
              refine (within_any _ v v _ _ hz5).mono ?_; rintro e w6 ⟨rfl, hx6⟩
              rw [decide_eq_true (p := within v v _) (fun x hx => by obtain ⟨j, _, rfl⟩ := rowL_mem hx; exact ⟨Int.le_refl _, Int.le_refl _⟩)]
              have E6 := hz.trans (hx5.trans hx6)
              go_wp2
              go_roundw
              case rel =>
                repeat apply Exists.intro
                exact ⟨⟨k + 1, by omega, by go_num, E6⟩, rfl⟩
              case measure => simp [intOf]; omega
            · have E7 := hE.trans hz
              go_wp2
              go_roundw
              case rel => exact ⟨12, by decide, rfl, E7⟩
              case measure => simp [intOf]
    · go_wp2_with fail
      refine (first10_any _ (hg.ext hE)).mono ?_; rintro e w9 ⟨rfl, hx9⟩
      go_wp2
      go_ret
      exact ⟨rfl, hE.trans hx9⟩
set_option maxHeartbeats 8000000 in
set_option maxRecDepth 20000 in
theorem samples_eight_bad (mo c v : Int) (ts ls A : List Int) (f : List (ByteArray × Int) × Int) (a b : Option Addr) (n m ca cb : Nat) (w : World) (hg : EtIs w) (ha : Ints w (.slice a 8 ca) ts) (hb : Ints w (.slice b m cb) ls) (h1 : ¬ 5000 < n) (h2 : ¬ 5000 < m)
    (P0 : Hid (∀ u u' W, Ints W u ts → Ints W u' ls → Calls Tryd.prog 22 #[.int .i64 mo, u, u', .int .i64 c] W (ZPost W A (none)))) (AL : Hid ((none : Fall) = none → A.length = 64 ∧ within 0 255 A))
    (hv : v < 0 ∨ ¬ v < 0 ∧ 255 < v) :
    Calls Tryd.prog 6 #[.int .i64 mo, .slice a 8 ca, .slice b m cb, .int .i64 c, .int .i64 v] w fun e w' => e = .returned (.bool true) ∧ Ext w w' := by
  obtain ⟨i0, iz, iz0, iz1, iz2⟩ := info_parts infoInt
  rcases hv with hv | ⟨hv, hv'⟩
  all_goals
    have AL2 := Lib.hid (AL.out rfl)
    clear AL
    go_enter Tryd.func6, Tryd.ntmps6
    go_wp2_with fail
    refine (first10_any _ hg).mono ?_; rintro e w1 ⟨rfl, hx1⟩
    go_wp2_with fail
    refine (P0.out _ _ _ (ha.ext (by repeat (first | exact Ext.refl _ | assumption | refine Ext.alloc ?_ _ | refine Ext.drew ?_ | refine Ext.drewN ?_ _ | refine Ext.setCell ?_ (by first | exact Nat.le_refl _ | (simp; done) | omega) _ | refine Ext.trans ?_ (by assumption)))) (hb.ext (by repeat (first | exact Ext.refl _ | assumption | refine Ext.alloc ?_ _ | refine Ext.drew ?_ | refine Ext.drewN ?_ _ | refine Ext.setCell ?_ (by first | exact Nat.le_refl _ | (simp; done) | omega) _ | refine Ext.trans ?_ (by assumption))))).mono ?_; rintro e w2 ⟨u2, x2, rfl, hx2, hz2, he2⟩
    obtain rfl : x2 = .nilIface := he2
    obtain ⟨a2, c2, e2⟩ := hz2.form
    rw [AL2.out.1] at e2
    subst e2
    go_wp2_with fail
    refine (within_any _ 0 255 _ _ (hz2.ext (by repeat (first | exact Ext.refl _ | assumption | refine Ext.alloc ?_ _ | refine Ext.drew ?_ | refine Ext.drewN ?_ _ | refine Ext.setCell ?_ (by first | exact Nat.le_refl _ | (simp; done) | omega) _ | refine Ext.trans ?_ (by assumption))))).mono ?_; rintro e w3 ⟨rfl, hx3⟩
    rw [decide_eq_true AL2.out.2]
    go_wp2_with fail
    refine (first10_any _ (hg.ext (by repeat (first | exact Ext.refl _ | assumption | refine Ext.alloc ?_ _ | refine Ext.drew ?_ | refine Ext.drewN ?_ _ | refine Ext.setCell ?_ (by first | exact Nat.le_refl _ | (simp; done) | omega) _ | refine Ext.trans ?_ (by assumption))))).mono ?_; rintro e w9 ⟨rfl, hx9⟩
    go_wp2
    go_ret
    exact ⟨rfl, (by repeat (first | exact Ext.refl _ | assumption | refine Ext.alloc ?_ _ | refine Ext.drew ?_ | refine Ext.drewN ?_ _ | refine Ext.setCell ?_ (by first | exact Nat.le_refl _ | (simp; done) | omega) _ | refine Ext.trans ?_ (by assumption)))⟩
set_option maxHeartbeats 8000000 in
set_option maxRecDepth 20000 in
theorem samples_eight_ok (mo c v : Int) (ts ls A : List Int) (f : List (ByteArray × Int) × Int) (a b : Option Addr) (n m ca cb : Nat) (w : World) (hg : EtIs w) (ha : Ints w (.slice a 8 ca) ts) (hb : Ints w (.slice b m cb) ls) (h1 : ¬ 5000 < n) (h2 : ¬ 5000 < m)
    (P0 : Hid (∀ u u' W, Ints W u ts → Ints W u' ls → Calls Tryd.prog 22 #[.int .i64 mo, u, u', .int .i64 c] W (ZPost W A (none)))) (AL : Hid ((none : Fall) = none → A.length = 64 ∧ within 0 255 A))
    (hv : 0 ≤ v ∧ v ≤ 255) (P : Hid (∀ N, (N = 4 ∨ N = 8) → ∀ k : Int, 0 ≤ k ∧ k ≤ 3 → ∀ u u' W, Ints W u (rowL N fun _ => v) → Ints W u' (rowL N fun _ => v) → Calls Tryd.prog 22 #[.int .i64 k, u, u', .int .i64 v] W (ZPost W (rowL (N * N) fun _ => v) none))) :
    Calls Tryd.prog 6 #[.int .i64 mo, .slice a 8 ca, .slice b m cb, .int .i64 c, .int .i64 v] w fun e w' => e = .returned (.bool true) ∧ Ext w w' := by
  obtain ⟨i0, iz, iz0, iz1, iz2⟩ := info_parts infoInt
  have AL2 := Lib.hid (AL.out rfl)
  clear AL
  go_enter Tryd.func6, Tryd.ntmps6
  go_wp2_with fail
  refine (first10_any _ hg).mono ?_; rintro e w1 ⟨rfl, hx1⟩
  go_wp2_with fail
  refine (P0.out _ _ _ (ha.ext (by repeat (first | exact Ext.refl _ | assumption | refine Ext.alloc ?_ _ | refine Ext.drew ?_ | refine Ext.drewN ?_ _ | refine Ext.setCell ?_ (by first | exact Nat.le_refl _ | (simp; done) | omega) _ | refine Ext.trans ?_ (by assumption)))) (hb.ext (by repeat (first | exact Ext.refl _ | assumption | refine Ext.alloc ?_ _ | refine Ext.drew ?_ | refine Ext.drewN ?_ _ | refine Ext.setCell ?_ (by first | exact Nat.le_refl _ | (simp; done) | omega) _ | refine Ext.trans ?_ (by assumption))))).mono ?_; rintro e w2 ⟨u2, x2, rfl, hx2, hz2, he2⟩
  obtain rfl : x2 = .nilIface := he2
  obtain ⟨a2, c2, e2⟩ := hz2.form
  rw [AL2.out.1] at e2
  subst e2
  go_wp2_with fail
  refine (within_any _ 0 255 _ _ (hz2.ext (by repeat (first | exact Ext.refl _ | assumption | refine Ext.alloc ?_ _ | refine Ext.drew ?_ | refine Ext.drewN ?_ _ | refine Ext.setCell ?_ (by first | exact Nat.le_refl _ | (simp; done) | omega) _ | refine Ext.trans ?_ (by assumption))))).mono ?_; rintro e w3 ⟨rfl, hx3⟩
  rw [decide_eq_true AL2.out.2]
  go_wp2
  go_loopw [13] (fun iv wr => ∃ k : Int, (k = 4 ∨ k = 8 ∨ k = 12) ∧ iv = .int .i64 k ∧ Ext w wr) (fun iv _ => 12 - (intOf iv).toNat)
  case atStart => exact ⟨4, Or.inl rfl, rfl, (by repeat (first | exact Ext.refl _ | assumption | refine Ext.alloc ?_ _ | refine Ext.drew ?_ | refine Ext.drewN ?_ _ | refine Ext.setCell ?_ (by first | exact Nat.le_refl _ | (simp; done) | omega) _ | refine Ext.trans ?_ (by assumption)))⟩
  case round =>
    obtain ⟨k, hk, rfl, hE⟩ := hrel
    have hB := hE.size
    rcases hk with rfl | rfl | rfl
    · skip
      go_wp2_with (at_make; refine wpList_make_full _ rfl _ _ 22 rfl w.heap.size 3 i0 (.int .i64 0) 1 Tryd.underlying22 iz iz0 iz1 .i64 .i64 _ _ 4 rfl rfl rfl rfl (by rw [iz2]; omega) (by unfold maxLen; omega) hB ?_; intro w3 hown hgrow)
      have hE3 : Ext w w3 := Below.grown hE hgrow hB (fun k hk => by cases hk)
      rw [zeros_rowi] at hown
      clear hgrow hE hB
      obtain ⟨G, hG⟩ : ∃ G, G = wr.heap.size := ⟨_, rfl⟩
      obtain ⟨gg, gc, eg, hgb, -, -, -⟩ := own_form hown (by decide)
      simp only [Value.slice.injEq, Option.some.injEq, Addr.mk.injEq, and_true, true_and] at eg
      obtain ⟨rfl, rfl⟩ := eg
      rw [← hG] at hown hgb ⊢
      clear hG
      go_wp2
      go_loopw [15] (fun iv wq => ∃ k : Nat, k ≤ 4 ∧ iv = .int .i64 k ∧ Hid (wq.ownsRow w.heap.size 3 1 (.slice (some ⟨G, 0, none⟩) 4 4) 4 ((rowL 4 fun j => if j < k then v else 0).map (Value.int .i64))) ∧ Ext w wq) (fun iv _ => 4 - (intOf iv).toNat)
      case atStart => exact ⟨0, Nat.zero_le _, rfl, by show World.ownsRow _ _ _ _ _ _ _; simpa using hown, hE3⟩
      case round =>
        clear hown hE3
        obtain ⟨k, hk, rfl, HO, hE⟩ := hrel
        by_cases hlt : k < 4
        · obtain ⟨cz, fz⟩ := own_cell HO.out hlt
          rw [if_neg (Nat.lt_irrefl _)] at cz
          have t4 : decide ((k : Int) < 4) = true := decide_eq_true (by omega)
          go_wp2
          go_roundw
          case rel =>
            refine ⟨k + 1, by omega, by go_num, ?_, Below.setCell hE hgb _⟩
            have h := own_set (x := v) HO.out hlt
            rw [rowL_congri (g := fun j => if j < k + 1 then v else 0) (fun i _ => by
              by_cases hik : i = k
              · subst hik
                rw [if_pos rfl, if_pos (by omega)]
              · rw [if_neg hik]
                by_cases h2 : i < k
                · rw [if_pos h2, if_pos (by omega)]
                · rw [if_neg h2, if_neg (by omega)])] at h
            exact h
          case measure => simp [intOf]; omega
        · obtain rfl : k = 4 := by omega
          have ho := HO.out
          rw [rowL_congri (g := fun _ => v) (fun j hj => by rw [if_pos hj])] at ho
          have HI := Lib.hid (Ints.of_row ho (by decide))
          have P1 := Lib.hid (P.out 4 (Or.inl rfl))
          clear HO ho
          go_wp2
          go_loopw [16] (fun iv wz => ∃ k : Nat, k ≤ 4 ∧ iv = .int .i64 k ∧ Ext wr wz) (fun iv _ => 4 - (intOf iv).toNat)
          case atStart => exact ⟨0, Nat.zero_le _, rfl, Ext.refl _⟩
          case round =>
            obtain ⟨k, hk, rfl, hz⟩ := hrel
            by_cases hlt : k < 4
            · have t4 : decide ((k : Int) < 4) = true := decide_eq_true (by omega)
              have P2 := Lib.hid (P1.out (k : Int) (by omega))
              go_wp2_with fail
              refine (P2.out _ _ _ (HI.out.ext hz) (HI.out.ext hz)).mono ?_; rintro e w5 ⟨u5, x5, rfl, hx5, hz5, he5⟩
              obtain rfl : x5 = .nilIface := he5
              obtain ⟨a5, c5, e5⟩ := hz5.form
              rw [rowL_length] at e5
              subst e5
              go_wp2_with fail
              refine (within_any _ v v _ _ hz5).mono ?_; rintro e w6 ⟨rfl, hx6⟩
              rw [decide_eq_true (p := within v v _) (fun x hx => by obtain ⟨j, _, rfl⟩ := rowL_mem hx; exact ⟨Int.le_refl _, Int.le_refl _⟩)]
              have E6 := hz.trans (hx5.trans hx6)
              go_wp2
              go_roundw
              case rel =>
                repeat apply Exists.intro
                exact ⟨⟨k + 1, by omega, by go_num, E6⟩, rfl⟩
              case measure => simp [intOf]; omega
            · have E7 := hE.trans hz
              go_wp2
              go_roundw
              case rel => exact ⟨8, by decide, rfl, E7⟩
              case measure => simp [intOf]
    · skip
      go_wp2_with (at_make; refine wpList_make_full _ rfl _ _ 22 rfl w.heap.size 3 i0 (.int .i64 0) 1 Tryd.underlying22 iz iz0 iz1 .i64 .i64 _ _ 8 rfl rfl rfl rfl (by rw [iz2]; omega) (by unfold maxLen; omega) hB ?_; intro w3 hown hgrow)
      have hE3 : Ext w w3 := Below.grown hE hgrow hB (fun k hk => by cases hk)
      rw [zeros_rowi] at hown
      clear hgrow hE hB
      obtain ⟨G, hG⟩ : ∃ G, G = wr.heap.size := ⟨_, rfl⟩
      obtain ⟨gg, gc, eg, hgb, -, -, -⟩ := own_form hown (by decide)
      simp only [Value.slice.injEq, Option.some.injEq, Addr.mk.injEq, and_true, true_and] at eg
      obtain ⟨rfl, rfl⟩ := eg
      rw [← hG] at hown hgb ⊢
      clear hG
      go_wp2
      go_loopw [15] (fun iv wq => ∃ k : Nat, k ≤ 8 ∧ iv = .int .i64 k ∧ Hid (wq.ownsRow w.heap.size 3 1 (.slice (some ⟨G, 0, none⟩) 8 8) 8 ((rowL 8 fun j => if j < k then v else 0).map (Value.int .i64))) ∧ Ext w wq) (fun iv _ => 8 - (intOf iv).toNat)
      case atStart => exact ⟨0, Nat.zero_le _, rfl, by show World.ownsRow _ _ _ _ _ _ _; simpa using hown, hE3⟩
      case round =>
        clear hown hE3
        obtain ⟨k, hk, rfl, HO, hE⟩ := hrel
        by_cases hlt : k < 8
        · obtain ⟨cz, fz⟩ := own_cell HO.out hlt
          rw [if_neg (Nat.lt_irrefl _)] at cz
          have t4 : decide ((k : Int) < 8) = true := decide_eq_true (by omega)
          go_wp2
          go_roundw
          case rel =>
            refine ⟨k + 1, by omega, by go_num, ?_, Below.setCell hE hgb _⟩
            have h := own_set (x := v) HO.out hlt
            rw [rowL_congri (g := fun j => if j < k + 1 then v else 0) (fun i _ => by
              by_cases hik : i = k
              · subst hik
                rw [if_pos rfl, if_pos (by omega)]
              · rw [if_neg hik]
                by_cases h2 : i < k
                · rw [if_pos h2, if_pos (by omega)]
                · rw [if_neg h2, if_neg (by omega)])] at h
            exact h
          case measure => simp [intOf]; omega
        · obtain rfl : k = 8 := by omega
          have ho := HO.out
          rw [rowL_congri (g := fun _ => v) (fun j hj => by rw [if_pos hj])] at ho
          have HI := Lib.hid (Ints.of_row ho (by decide))
          have P1 := Lib.hid (P.out 8 (Or.inr rfl))
          clear HO ho
          go_wp2
          go_loopw [16] (fun iv wz => ∃ k : Nat, k ≤ 4 ∧ iv = .int .i64 k ∧ Ext wr wz) (fun iv _ => 4 - (intOf iv).toNat)
          case atStart => exact ⟨0, Nat.zero_le _, rfl, Ext.refl _⟩
          case round =>
            obtain ⟨k, hk, rfl, hz⟩ := hrel
            by_cases hlt : k < 4
            · have t4 : decide ((k : Int) < 4) = true := decide_eq_true (by omega)
              have P2 := Lib.hid (P1.out (k : Int) (by omega))
              go_wp2_with fail
              refine (P2.out _ _ _ (HI.out.ext hz) (HI.out.ext hz)).mono ?_; rintro e w5 ⟨u5, x5, rfl, hx5, hz5, he5⟩
              obtain rfl : x5 = .nilIface := he5
              obtain ⟨a5, c5, e5⟩ := hz5.form
              rw [rowL_length] at e5
              subst e5
              go_wp2_with fail
              refine (within_any _ v v _ _ hz5).mono ?_; rintro e w6 ⟨rfl, hx6⟩
              rw [decide_eq_true (p := within v v _) (fun x hx => by obtain ⟨j, _, rfl⟩ := rowL_mem hx; exact ⟨Int.le_refl _, Int.le_refl _⟩)]
              have E6 := hz.trans (hx5.trans hx6)
              go_wp2
              go_roundw
              case rel =>
                repeat apply Exists.intro
                exact ⟨⟨k + 1, by omega, by go_num, E6⟩, rfl⟩
              case measure => simp [intOf]; omega
            · have E7 := hE.trans hz
              go_wp2
              go_roundw
              case rel => exact ⟨12, by decide, rfl, E7⟩
              case measure => simp [intOf]
    · go_wp2_with fail
      refine (first10_any _ (hg.ext hE)).mono ?_; rintro e w9 ⟨rfl, hx9⟩
      go_wp2
      go_ret
      exact ⟨rfl, hE.trans hx9⟩
theorem samples_law (mo c v : Int) (ts ls : List Int) (va vb : Value) (w : World) (hg : EtIs w) (hr : Row w va ts.length (ts.map (Value.int .i64))) (hs : Row w vb ls.length (ls.map (Value.int .i64))) :
    Calls Tryd.prog 6 #[.int .i64 mo, va, vb, .int .i64 c, .int .i64 v] w fun e w' => e = .returned (.bool true) ∧ Ext w w' := by
  by_cases hl : 5000 < ts.length ∨ ¬ 5000 < ts.length ∧ 5000 < ls.length
  · obtain ⟨a, ca, rfl⟩ := hr.form
    obtain ⟨b, cb, rfl⟩ := hs.form
    exact samples_long mo a b _ _ ca cb c v w hg hl
  · have h1 : ¬ 5000 < ts.length := by omega
    have h2 : ¬ 5000 < ls.length := by omega
    have ha : Ints w va ts := ⟨hr, by omega⟩
    have hb : Ints w vb ls := ⟨hs, by omega⟩
    obtain ⟨a, ca, rfl⟩ := ha.form
    obtain ⟨b, cb, rfl⟩ := hb.form
    have p0 := fun u u' W (h : Ints W u ts) (k : Ints W u' ls) => Predict_any mo ts ls c u u' W h k
    have p1 : (0 ≤ v ∧ v ≤ 255) → ∀ N, (N = 4 ∨ N = 8) → ∀ k : Int, 0 ≤ k ∧ k ≤ 3 → ∀ u u' W, Ints W u (rowL N fun _ => v) → Ints W u' (rowL N fun _ => v) → Calls Tryd.prog 22 #[.int .i64 k, u, u', .int .i64 v] W (ZPost W (rowL (N * N) fun _ => v) none) := fun hv N hN k hk u u' W h1 h2 => by
      have := Predict_any k _ _ v u u' W h1 h2
      have e : prdAns k (rowL N fun _ => v) (rowL N fun _ => v) v = none := by unfold prdAns; rw [if_neg (by omega)]; exact flat_chk hN hv
      have e2 : prdV k (rowL N fun _ => v) (rowL N fun _ => v) v = rowL (N * N) fun _ => v := by unfold prdV; rw [e]; exact flat_prd hN hv hk
      rwa [e, e2] at this
    cases hm : prdAns mo ts ls c with
    | some f =>
      rw [hm] at p0
      by_cases hv : v < 0 ∨ ¬ v < 0 ∧ 255 < v
      · exact samples_some_bad mo c v ts ls _ f a b _ _ ca cb w hg ha hb h1 h2 p0 (fun h => by cases h) hv
      · exact samples_some_ok mo c v ts ls _ f a b _ _ ca cb w hg ha hb h1 h2 p0 (fun h => by cases h) (by omega) (p1 (by omega))
    | none =>
      obtain ⟨hmo, hc⟩ := prdAns_none hm
      have hn := (chkAns_none hc).1
      have ev : prdV mo ts ls c = prdL mo ts ls c := by unfold prdV; rw [hm]
      rw [hm, ev] at p0
      have hw := prdL_within (m := mo) hc
      have hl' := prdL_len mo ts ls c
      rcases hn with hn | hn
      · rw [hn] at ha hl' ⊢
        by_cases hv : v < 0 ∨ ¬ v < 0 ∧ 255 < v
        · exact samples_four_bad mo c v ts ls _ ([], 0) a b 4 _ ca cb w hg ha hb (by decide) h2 p0 (fun _ => ⟨hl', hw⟩) hv
        · exact samples_four_ok mo c v ts ls _ ([], 0) a b 4 _ ca cb w hg ha hb (by decide) h2 p0 (fun _ => ⟨hl', hw⟩) (by omega) (p1 (by omega))
      · rw [hn] at ha hl' ⊢
        by_cases hv : v < 0 ∨ ¬ v < 0 ∧ 255 < v
        · exact samples_eight_bad mo c v ts ls _ ([], 0) a b 8 _ ca cb w hg ha hb (by decide) h2 p0 (fun _ => ⟨hl', hw⟩) hv
        · exact samples_eight_ok mo c v ts ls _ ([], 0) a b 8 _ ca cb w hg ha hb (by decide) h2 p0 (fun _ => ⟨hl', hw⟩) (by omega) (p1 (by omega))
end Go.Proofs.YtbhlbiandelimaaDoor
