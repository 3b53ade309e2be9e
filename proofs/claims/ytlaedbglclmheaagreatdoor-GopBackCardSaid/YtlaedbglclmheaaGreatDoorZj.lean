/- Contracts of this seat: Rep. -/
import Derived.Test.YtlaedbglclmheaaGreatDoorZb
import Derived.Test.YtlaedbglclmheaaGreatDoorZc
import Derived.Laws.CopyOwn
import Derived.WalkSpells
import Derived.Deep.RegionLaw
import Derived.Deep.RegionHeld3
/- slices.Repeat of one int, at the lengths that are asked for: its contract over this seat's translation. -/
namespace Go.Proofs.YtlaedbglclmheaaGreatDoor
set_option linter.unusedVariables false
set_option linter.unusedSimpArgs false
open Go.RowKit Go.Extern.Stop Go.Stop Go.Extern

set_option maxRecDepth 20000 in
theorem mul64_4 (w : World) : Calls Tryz.prog 185 #[.int .u64 1, .int .u64 4] w fun e w' => e = .returned (.tuple #[.int .u64 0, .int .u64 4]) ∧ w = w' := by
  go_enter Tryz.func185, Tryz.ntmps185
  go_wp2
  go_ret2
  exact ⟨rfl, rfl⟩
set_option maxRecDepth 20000 in
theorem mul_4 (w : World) : Calls Tryz.prog 156 #[.int .u64 1, .int .u64 4] w fun e w' => e = .returned (.tuple #[.int .u64 0, .int .u64 4]) ∧ w = w' := by
  go_enter Tryz.func156, Tryz.ntmps156
  go_wp2_with fail
  refine (mul64_4 _).mono ?_; rintro e w1 ⟨rfl, rfl⟩
  go_wp2
  go_ret2
  exact ⟨rfl, rfl⟩
set_option maxRecDepth 20000 in
theorem mul64_8 (w : World) : Calls Tryz.prog 185 #[.int .u64 1, .int .u64 8] w fun e w' => e = .returned (.tuple #[.int .u64 0, .int .u64 8]) ∧ w = w' := by
  go_enter Tryz.func185, Tryz.ntmps185
  go_wp2
  go_ret2
  exact ⟨rfl, rfl⟩
set_option maxRecDepth 20000 in
theorem mul_8 (w : World) : Calls Tryz.prog 156 #[.int .u64 1, .int .u64 8] w fun e w' => e = .returned (.tuple #[.int .u64 0, .int .u64 8]) ∧ w = w' := by
  go_enter Tryz.func156, Tryz.ntmps156
  go_wp2_with fail
  refine (mul64_8 _).mono ?_; rintro e w1 ⟨rfl, rfl⟩
  go_wp2
  go_ret2
  exact ⟨rfl, rfl⟩
set_option maxRecDepth 20000 in
theorem mul64_64 (w : World) : Calls Tryz.prog 185 #[.int .u64 1, .int .u64 64] w fun e w' => e = .returned (.tuple #[.int .u64 0, .int .u64 64]) ∧ w = w' := by
  go_enter Tryz.func185, Tryz.ntmps185
  go_wp2
  go_ret2
  exact ⟨rfl, rfl⟩
set_option maxRecDepth 20000 in
theorem mul_64 (w : World) : Calls Tryz.prog 156 #[.int .u64 1, .int .u64 64] w fun e w' => e = .returned (.tuple #[.int .u64 0, .int .u64 64]) ∧ w = w' := by
  go_enter Tryz.func156, Tryz.ntmps156
  go_wp2_with fail
  refine (mul64_64 _).mono ?_; rintro e w1 ⟨rfl, rfl⟩
  go_wp2
  go_ret2
  exact ⟨rfl, rfl⟩
set_option maxRecDepth 20000 in
theorem mul64_128 (w : World) : Calls Tryz.prog 185 #[.int .u64 1, .int .u64 128] w fun e w' => e = .returned (.tuple #[.int .u64 0, .int .u64 128]) ∧ w = w' := by
  go_enter Tryz.func185, Tryz.ntmps185
  go_wp2
  go_ret2
  exact ⟨rfl, rfl⟩
set_option maxRecDepth 20000 in
theorem mul_128 (w : World) : Calls Tryz.prog 156 #[.int .u64 1, .int .u64 128] w fun e w' => e = .returned (.tuple #[.int .u64 0, .int .u64 128]) ∧ w = w' := by
  go_enter Tryz.func156, Tryz.ntmps156
  go_wp2_with fail
  refine (mul64_128 _).mono ?_; rintro e w1 ⟨rfl, rfl⟩
  go_wp2
  go_ret2
  exact ⟨rfl, rfl⟩
set_option maxRecDepth 20000 in
theorem mul64_192 (w : World) : Calls Tryz.prog 185 #[.int .u64 1, .int .u64 192] w fun e w' => e = .returned (.tuple #[.int .u64 0, .int .u64 192]) ∧ w = w' := by
  go_enter Tryz.func185, Tryz.ntmps185
  go_wp2
  go_ret2
  exact ⟨rfl, rfl⟩
set_option maxRecDepth 20000 in
theorem mul_192 (w : World) : Calls Tryz.prog 156 #[.int .u64 1, .int .u64 192] w fun e w' => e = .returned (.tuple #[.int .u64 0, .int .u64 192]) ∧ w = w' := by
  go_enter Tryz.func156, Tryz.ntmps156
  go_wp2_with fail
  refine (mul64_192 _).mono ?_; rintro e w1 ⟨rfl, rfl⟩
  go_wp2
  go_ret2
  exact ⟨rfl, rfl⟩
set_option maxRecDepth 20000 in
theorem mul64_256 (w : World) : Calls Tryz.prog 185 #[.int .u64 1, .int .u64 256] w fun e w' => e = .returned (.tuple #[.int .u64 0, .int .u64 256]) ∧ w = w' := by
  go_enter Tryz.func185, Tryz.ntmps185
  go_wp2
  go_ret2
  exact ⟨rfl, rfl⟩
set_option maxRecDepth 20000 in
theorem mul_256 (w : World) : Calls Tryz.prog 156 #[.int .u64 1, .int .u64 256] w fun e w' => e = .returned (.tuple #[.int .u64 0, .int .u64 256]) ∧ w = w' := by
  go_enter Tryz.func156, Tryz.ntmps156
  go_wp2_with fail
  refine (mul64_256 _).mono ?_; rintro e w1 ⟨rfl, rfl⟩
  go_wp2
  go_ret2
  exact ⟨rfl, rfl⟩
set_option maxRecDepth 20000 in
theorem mul64_384 (w : World) : Calls Tryz.prog 185 #[.int .u64 1, .int .u64 384] w fun e w' => e = .returned (.tuple #[.int .u64 0, .int .u64 384]) ∧ w = w' := by
  go_enter Tryz.func185, Tryz.ntmps185
  go_wp2
  go_ret2
  exact ⟨rfl, rfl⟩
set_option maxRecDepth 20000 in
theorem mul_384 (w : World) : Calls Tryz.prog 156 #[.int .u64 1, .int .u64 384] w fun e w' => e = .returned (.tuple #[.int .u64 0, .int .u64 384]) ∧ w = w' := by
  go_enter Tryz.func156, Tryz.ntmps156
  go_wp2_with fail
  refine (mul64_384 _).mono ?_; rintro e w1 ⟨rfl, rfl⟩
  go_wp2
  go_ret2
  exact ⟨rfl, rfl⟩
set_option maxRecDepth 20000 in
theorem mul64_512 (w : World) : Calls Tryz.prog 185 #[.int .u64 1, .int .u64 512] w fun e w' => e = .returned (.tuple #[.int .u64 0, .int .u64 512]) ∧ w = w' := by
  go_enter Tryz.func185, Tryz.ntmps185
  go_wp2
  go_ret2
  exact ⟨rfl, rfl⟩
set_option maxRecDepth 20000 in
theorem mul_512 (w : World) : Calls Tryz.prog 156 #[.int .u64 1, .int .u64 512] w fun e w' => e = .returned (.tuple #[.int .u64 0, .int .u64 512]) ∧ w = w' := by
  go_enter Tryz.func156, Tryz.ntmps156
  go_wp2_with fail
  refine (mul64_512 _).mono ?_; rintro e w1 ⟨rfl, rfl⟩
  go_wp2
  go_ret2
  exact ⟨rfl, rfl⟩
set_option maxRecDepth 20000 in
theorem mul64_576 (w : World) : Calls Tryz.prog 185 #[.int .u64 1, .int .u64 576] w fun e w' => e = .returned (.tuple #[.int .u64 0, .int .u64 576]) ∧ w = w' := by
  go_enter Tryz.func185, Tryz.ntmps185
  go_wp2
  go_ret2
  exact ⟨rfl, rfl⟩
set_option maxRecDepth 20000 in
theorem mul_576 (w : World) : Calls Tryz.prog 156 #[.int .u64 1, .int .u64 576] w fun e w' => e = .returned (.tuple #[.int .u64 0, .int .u64 576]) ∧ w = w' := by
  go_enter Tryz.func156, Tryz.ntmps156
  go_wp2_with fail
  refine (mul64_576 _).mono ?_; rintro e w1 ⟨rfl, rfl⟩
  go_wp2
  go_ret2
  exact ⟨rfl, rfl⟩
set_option maxRecDepth 20000 in
theorem mul64_768 (w : World) : Calls Tryz.prog 185 #[.int .u64 1, .int .u64 768] w fun e w' => e = .returned (.tuple #[.int .u64 0, .int .u64 768]) ∧ w = w' := by
  go_enter Tryz.func185, Tryz.ntmps185
  go_wp2
  go_ret2
  exact ⟨rfl, rfl⟩
set_option maxRecDepth 20000 in
theorem mul_768 (w : World) : Calls Tryz.prog 156 #[.int .u64 1, .int .u64 768] w fun e w' => e = .returned (.tuple #[.int .u64 0, .int .u64 768]) ∧ w = w' := by
  go_enter Tryz.func156, Tryz.ntmps156
  go_wp2_with fail
  refine (mul64_768 _).mono ?_; rintro e w1 ⟨rfl, rfl⟩
  go_wp2
  go_ret2
  exact ⟨rfl, rfl⟩
set_option maxRecDepth 20000 in
theorem mul64_1024 (w : World) : Calls Tryz.prog 185 #[.int .u64 1, .int .u64 1024] w fun e w' => e = .returned (.tuple #[.int .u64 0, .int .u64 1024]) ∧ w = w' := by
  go_enter Tryz.func185, Tryz.ntmps185
  go_wp2
  go_ret2
  exact ⟨rfl, rfl⟩
set_option maxRecDepth 20000 in
theorem mul_1024 (w : World) : Calls Tryz.prog 156 #[.int .u64 1, .int .u64 1024] w fun e w' => e = .returned (.tuple #[.int .u64 0, .int .u64 1024]) ∧ w = w' := by
  go_enter Tryz.func156, Tryz.ntmps156
  go_wp2_with fail
  refine (mul64_1024 _).mono ?_; rintro e w1 ⟨rfl, rfl⟩
  go_wp2
  go_ret2
  exact ⟨rfl, rfl⟩
theorem zeros_rowr (n : Nat) (x : Int) : (madeCells (Value.int .i64 0).cells (n * 1)).toList = (rowL n fun j => if j < 0 then x else 0).map (Value.int .i64) := by
  apply List.ext_getElem?
  intro j
  by_cases hj : j < n <;> simp [madeCells, rowL, Value.cells, hj, Nat.mod_one]
theorem own_heap {w : World} {base g N : Nat} {xs : List Value} (h : w.ownsRow base 3 1 (.slice (some ⟨g, 0, none⟩) N N) N xs) : w.heap[g]? = some (.cells xs.toArray 3 (0, 0)) := by
  obtain ⟨hl, h | ⟨g', cap, cur, e, -, hg, -, -, hs, ht⟩⟩ := h
  · cases h.1
  · simp only [Value.slice.injEq, Option.some.injEq, Addr.mk.injEq, and_true, true_and] at e
    obtain ⟨rfl, rfl⟩ := e
    rw [hg]
    have : cur.toList = xs := by rw [← ht, List.take_of_length_le (by simp [hs])]
    rw [← this]
theorem heap_own {w : World} {base g N : Nat} {xs : List Value} (hb : base ≤ g) (hl : xs.length = N) (hN : N ≤ maxLen) (h : w.heap[g]? = some (.cells xs.toArray 3 (0, 0))) : w.ownsRow base 3 1 (.slice (some ⟨g, 0, none⟩) N N) N xs :=
  ⟨by omega, Or.inr ⟨g, N, xs.toArray, rfl, hb, h, Nat.le_refl _, hN, by simp [hl], by rw [List.take_of_length_le (by simp [hl])]⟩⟩
theorem splice_rep {N n k : Nat} {x : Int} (h : n + k ≤ N) : splice ((rowL N fun j => if j < n then x else 0).map (Value.int .i64)) n ((rowL k fun _ => x).map (Value.int .i64)) = (rowL N fun j => if j < n + k then x else 0).map (Value.int .i64) := by
  unfold splice
  apply List.ext_getElem?
  intro j
  by_cases h1 : j < n
  · rw [List.getElem?_append_left (by simp [rowL_length]; omega)]
    rw [List.getElem?_take, if_pos h1, List.getElem?_map, List.getElem?_map, rowL_get (by omega), rowL_get (by omega), if_pos h1, if_pos (by omega)]
  · rw [List.getElem?_append_right (by simp [rowL_length]; omega)]
    have e1 : (List.take n (List.map (Value.int .i64) (rowL N fun j => if j < n then x else 0))).length = n := by simp [rowL_length]; omega
    rw [e1]
    by_cases h2 : j < n + k
    · rw [List.getElem?_append_left (by simp [rowL_length]; omega), List.getElem?_map, List.getElem?_map, rowL_get (by omega), rowL_get (by omega), if_pos h2]
    · rw [List.getElem?_append_right (by simp [rowL_length]; omega), List.getElem?_drop]
      have e2 : n + (List.map (Value.int .i64) (rowL k fun _ => x)).length + (j - n - (List.map (Value.int .i64) (rowL k fun _ => x)).length) = j := by simp [rowL_length]; omega
      rw [e2, List.getElem?_map, List.getElem?_map]
      by_cases h3 : j < N
      · rw [rowL_get h3, rowL_get h3, if_neg h1, if_neg h2]
      · rw [List.getElem?_eq_none (by rw [rowL_length]; omega), List.getElem?_eq_none (by rw [rowL_length]; omega)]
theorem rep_read {w : World} {G N n k : Nat} {x : Int} (h : w.heap[G]? = some (.cells ((rowL N fun j => if j < n then x else 0).map (Value.int .i64)).toArray 3 (0, 0))) (hk : k ≤ n) (hn : n ≤ N) : ∀ j u, ((rowL k fun _ => x).map (Value.int .i64))[j]? = some u → w.cell? ((⟨G, 0, none⟩ : Addr).add j) = some u := fun j u hu => by
  have hadd : (⟨G, 0, none⟩ : Addr).add j = ⟨G, 0 + j, none⟩ := by unfold Addr.add; split <;> simp_all
  rw [List.getElem?_map] at hu
  obtain ⟨y, hy, rfl⟩ := Option.map_eq_some_iff.1 hu
  have hj : j < k := by
    have := (List.getElem?_eq_some_iff.1 hy).1
    rwa [rowL_length] at this
  rw [rowL_get hj] at hy
  cases hy
  rw [hadd]
  have e : ((rowL N fun j => if j < n then x else 0).map (Value.int .i64))[0 + j]? = some (.int .i64 x) := by
    rw [Nat.zero_add, List.getElem?_map, rowL_get (by omega), if_pos (by omega)]; rfl
  unfold World.cell?
  simp only [h]
  simpa using e
theorem ones_int (k : Nat) (x : Int) : ∀ u ∈ (rowL k fun _ => x).map (Value.int .i64), u.oneCell' = true := fun u hu => by
  obtain ⟨y, _, rfl⟩ := List.mem_map.1 hu
  rfl
theorem rowL_one (x : Int) : (rowL 1 fun _ => x).map (Value.int .i64) = [Value.int .i64 x] := by simp [rowL, List.range_succ]
theorem rep_made {w w3 : World} {N G g0 off0 cap0 : Nat} {x : Int} (ha : Ints w (.slice (some ⟨g0, off0, none⟩) 1 cap0) [x]) (h : w3.ownsRow w.heap.size 3 1 (.slice (some ⟨w.heap.size, 0, none⟩) N N) N (madeCells (Value.int .i64 0).cells (N * 1)).toList) (hg : w.grownBy w3 none) (hG : G = w.heap.size) :
    Hid (Ext w w3 ∧ w3.heap[G]? = some (.cells ((rowL N fun j => if j < 0 then x else 0).map (Value.int .i64)).toArray 3 (0, 0)) ∧ ∀ j u, ([Value.int .i64 x])[j]? = some u → w3.cell? ((⟨g0, off0, none⟩ : Addr).add j) = some u) := by
  have hE3 : Ext w w3 := Below.grown (Ext.refl w) hg (Nat.le_refl _) (fun k hk => by cases hk)
  rw [zeros_rowr N x] at h
  subst hG
  exact ⟨hE3, own_heap h, news_of_ints (ha.ext hE3)⟩
theorem infoSz : (Tryz.prog.info? 3).map (·.size) = some 1 := by kernel_rfl
set_option maxHeartbeats 4000000 in
set_option maxRecDepth 20000 in
theorem rep_walk (N : Nat) (x : Int) (v : Value) (w : World) (ha : Ints w v [x]) (hN1 : 1 ≤ N) (hN2 : N ≤ 1024) (HM : Hid (∀ W, Calls Tryz.prog 156 #[.int .u64 1, .int .u64 (N : Int)] W fun e w' => e = .returned (.tuple #[.int .u64 0, .int .u64 (N : Int)]) ∧ W = w')) :
    Calls Tryz.prog 137 #[v, .int .i64 (N : Int)] w fun e w' => ∃ u, e = .returned u ∧ Ext w w' ∧ w'.ownsRow w.heap.size 3 1 u N ((rowL N fun _ => x).map (Value.int .i64)) ∧ ∃ G, u = .slice (some ⟨G, 0, none⟩) N N := by
  obtain ⟨i0, iz, iz0, iz1, iz2⟩ := info_parts infoInt
  obtain ⟨g0, off0, cap0, rfl, -, -⟩ := ha.addr (by simp)
  have c1 : IntKind.u64.wrap (N : Int) = (N : Int) := by rw [IntKind.wrap_u64]; omega
  have c2 : IntKind.i64.wrap (N : Int) = (N : Int) := by rw [IntKind.wrap_i64]; omega
  have c3 : ¬ (9223372036854775807 : Int) < (N : Int) := by omega
  have c4 : ¬ (N : Int) < 0 := by omega
  change Ints w (.slice (some ⟨g0, off0, none⟩) 1 cap0) [x] at ha
  show Calls Tryz.prog 137 #[.slice (some ⟨g0, off0, none⟩) 1 cap0, .int .i64 (N : Int)] w _
  go_enter Tryz.func137, Tryz.ntmps137
  go_wp2_with fail
  refine (HM.out _).mono ?_; rintro e w1 ⟨rfl, rfl⟩
  have HF0 : Hid (0 + [Value.int .i64 x].length ≤ ((rowL N fun j => if j < 0 then x else 0).map (Value.int .i64)).length) := by show _ ≤ _; rw [List.length_map, rowL_length]; exact hN1
  obtain ⟨G, hG⟩ : ∃ G, G = w.heap.size := ⟨_, rfl⟩
  have HGl : Hid (w.heap.size ≤ G) := Nat.le_of_eq hG.symm
  have HGe := Lib.hid hG
  clear hG
  go_wp2_with (first
    | (at_make; refine wpList_make_full _ rfl _ _ 49 rfl w.heap.size 3 i0 (.int .i64 0) 1 Tryz.underlying49 iz iz0 iz1 .i64 .i64 _ _ N rfl rfl rfl rfl (by rw [iz2]; omega) (by unfold maxLen; omega) (Nat.le_refl _) ?_; intro w3 hown hgrow; have H3 := rep_made (x := x) ha hown hgrow HGe.out; rw [← HGe.out]; clear hown hgrow)
    | (refine wpList_copy_splice rfl _ _ 49 49 rfl 3 Tryz.underlying49 infoSz _ _ _ _ _ _ rfl rfl G 0 _ 3 H3.out.2.1 [.int .i64 x] (Nat.min_eq_left hN1).symm (fun _ => ⟨rfl, _, rfl, H3.out.2.2⟩) HF0.out (one_int x) w.heap.size w H3.out.1 HGl.out ?_; intro w4 HG4 hE4))
  have HG5 : Hid (w4.heap[G]? = some (.cells ((rowL N fun j => if j < 1 then x else 0).map (Value.int .i64)).toArray 3 (0, 0))) := by
    show _ = _
    have h := HG4.out
    rw [← rowL_one, splice_rep (by omega)] at h
    exact h
  clear HG4 H3 HF0
  go_wp2
  go_loopw [8] (fun nv wr => ∃ n : Nat, 1 ≤ n ∧ n ≤ N ∧ nv = .int .i64 n ∧ Hid (wr.heap[G]? = some (.cells ((rowL N fun j => if j < n then x else 0).map (Value.int .i64)).toArray 3 (0, 0))) ∧ Ext w wr) (fun nv _ => N - (intOf nv).toNat)
  case atStart => exact ⟨1, Nat.le_refl _, hN1, rfl, HG5, hE4⟩
  case round =>
    clear HG5 hE4
    obtain ⟨n, hn1, hn2, rfl, HO, hE⟩ := hrel
    by_cases hlt : n < N
    · obtain ⟨k, hk⟩ : ∃ k, k = min n (N - n) := ⟨_, rfl⟩
      have hk1 : 1 ≤ k ∧ k ≤ n ∧ n + k ≤ N := by omega
      have HK : Hid (k = Nat.min n (N - n)) := hk
      obtain ⟨hk1, hk2, hk3⟩ := hk1
      have HR := Lib.hid (rep_read HO.out hk2 hn2)
      have HF : Hid (n + ((rowL k fun _ => x).map (Value.int .i64)).length ≤ ((rowL N fun j => if j < n then x else 0).map (Value.int .i64)).length) := by show _ ≤ _; simp [rowL_length]; omega
      have HL : Hid (((rowL k fun _ => x).map (Value.int .i64)).length = k) := by show _ = _; simp [rowL_length]
      have d1 : (0 : Int) ≤ (n : Int) ∧ (n : Int) ≤ (N : Int) := by omega
      have d2 : IntKind.i64.wrap ((n : Int) + (k : Int)) = (n : Int) + (k : Int) := by rw [IntKind.wrap_i64]; omega
      have d3 : ¬ (n : Int) < 0 := by omega
      have d4 : (n : Int) < (N : Int) := by omega
      have hED : Ext w wr.drew := hE.trans ⟨rfl, rfl, rfl, Nat.le_refl _, fun _ _ => rfl⟩
      have HNE : ¬ N = n := by omega
      clear hk
      go_wp2
      go_region_law (refine step_copy_splice (by rfl) _ _ 49 49 (by rfl) 3 Tryz.underlying49 infoSz _ _ _ _ _ _ (by rfl) (by rfl) G n _ 3 HO.out ((rowL k fun _ => x).map (Value.int .i64)) (by rw [HL.out]; exact HK.out) (fun _ => ⟨by first | rfl | (simp [Addr.add]; done) | (simp [Addr.add]; omega), _, rfl, HR.out⟩) HF.out (ones_int k x) w.heap.size w hED HGl.out ?_; intro w5 HG5 hE5; rw [HL.out])
      all_goals
        have HG6 : Hid (w5.heap[G]? = some (.cells ((rowL N fun j => if j < n + k then x else 0).map (Value.int .i64)).toArray 3 (0, 0))) := by
          show _ = _
          have h := HG5.out
          rwa [splice_rep hk3] at h
        clear HG5
        go_wp2
        go_roundw
        case rel =>
          have e9 : Value.int .i64 (IntKind.i64.wrap ((n : Int) + (k : Int))) = Value.int .i64 ((n + k : Nat) : Int) := by rw [d2]; push_cast; rfl
          first
            | exact ⟨n + k, by omega, hk3, e9, HG6, hE5⟩
            | exact ⟨n + k, by omega, hk3, by go_num, HG6, hE5⟩
            | (refine ⟨?_, ?_⟩; exact ⟨n + k, by omega, hk3, e9, HG6, hE5⟩; rfl)
            | ((repeat apply Exists.intro); exact ⟨⟨n + k, by omega, hk3, e9, HG6, hE5⟩, rfl⟩)
            | ((repeat apply Exists.intro); exact ⟨⟨n + k, by omega, hk3, by go_num, HG6, hE5⟩, rfl⟩)
        case measure =>
          first
            | (show N - ((n : Int) + (k : Int)).toNat < N - ((n : Int)).toNat; omega)
            | (simp [intOf, d2, go_sem]; omega)
            | (simp [intOf, d2, Act.put]; omega)
    · obtain rfl : n = N := by omega
      go_wp2
      go_ret
      refine ⟨_, rfl, hE, heap_own HGl.out (by simp [rowL_length]) (by unfold maxLen; omega) ?_, _, rfl⟩
      have h := HO.out
      have e : (rowL n fun j => if j < n then x else 0) = rowL n fun _ => x := by
        unfold rowL
        apply List.map_congr_left
        intro j hj
        exact if_pos (List.mem_range.1 hj)
      rwa [e] at h
end Go.Proofs.YtlaedbglclmheaaGreatDoor
