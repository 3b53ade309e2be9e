/- wht.transform: its contract over this seat's translation. -/
import Derived.Test.YtbmknmenaaanaaaDoorWMath
import Derived.WalkKit
import Derived.Sort.WalkC
import Derived.Deep.LoopGhost
import Derived.Deep.QuietTactic
import Derived.BigRegion
import Derived.BigQuiet
import Derived.Lib.Hide
namespace Go.Proofs.YtbmknmenaaanaaaDoor
set_option linter.unusedVariables false
set_option linter.unusedSimpArgs false
open Go.RowKit Go.Sort

def rowA (N : Nat) (f : Nat → Int) : Array Int := Array.ofFn (fun i : Fin N => f i)
theorem rowA_size (N : Nat) (f : Nat → Int) : (rowA N f).size = N := by simp [rowA]
theorem rowA_get {N : Nat} {f : Nat → Int} {j : Nat} (h : j < N) : (rowA N f)[j]! = f j := by
  rw [getElem!_pos _ _ (by rw [rowA_size]; exact h)]
  simp [rowA]
theorem rowA_set {N : Nat} {f : Nat → Int} {i : Nat} {x : Int} : (rowA N f).setIfInBounds i x = rowA N (fun j => if j = i then x else f j) := by
  apply Array.ext_getElem?
  intro j
  rw [Array.getElem?_setIfInBounds]
  by_cases hj : j < N
  · by_cases h : i = j
    · subst h; simp [rowA, hj]
    · have h' : ¬ j = i := fun e => h e.symm
      simp [rowA, hj, h, h']
  · by_cases h : i = j
    · subst h; simp [rowA, hj]
    · simp [rowA, hj, h]
theorem rowA_congr {N : Nat} {f g : Nat → Int} (h : ∀ j, j < N → f j = g j) : rowA N f = rowA N g := by
  apply Array.ext
  · simp [rowA]
  · intro j h1 h2
    simp only [rowA, Array.getElem_ofFn]
    exact h j (by simpa [rowA] using h1)

theorem bits_tab : ∀ k < 64, ∀ m < 6, bits .and .i64 (k : Nat) ((2 ^ m : Nat) : Int) = (if Nat.testBit k m then ((2 ^ m : Nat) : Int) else 0) ∧ (Nat.testBit k m = false → bits .or .i64 (k : Nat) ((2 ^ m : Nat) : Int) = (flip m k : Nat)) := by
  decide +kernel
theorem bits_yes {k m : Nat} {B : Int} (hB : B = 2 ^ m) (hk : k < 64) (hm : m < 6) (h : k.testBit m = true) : (bits .and .i64 (k : Int) B == 0) = false := by
  have e : B = ((2 ^ m : Nat) : Int) := by rw [hB]; push_cast; rfl
  rw [e, (bits_tab k hk m hm).1, if_pos h]
  have := Nat.one_le_two_pow (n := m)
  exact beq_eq_false_iff_ne.2 (by omega)
theorem bits_no {k m : Nat} {B : Int} (hB : B = 2 ^ m) (hk : k < 64) (hm : m < 6) (h : k.testBit m = false) : (bits .and .i64 (k : Int) B == 0) = true ∧ bits .or .i64 (k : Int) B = (flip m k : Nat) := by
  have e : B = ((2 ^ m : Nat) : Int) := by rw [hB]; push_cast; rfl
  rw [e, (bits_tab k hk m hm).1, if_neg (by rw [h]; decide)]
  exact ⟨rfl, (bits_tab k hk m hm).2 h⟩

theorem two_sets {w : World} {blk N q k j : Nat} {f : Nat → Int} {x y : Int} (hk : k < N) (hj : j < N) :
    ((((putRow (Value.int .i64) w blk 0 (rowA N f)).drewN q).setCell ⟨blk, k, none⟩ (.int .i64 x)).setCell ⟨blk, j, none⟩ (.int .i64 y)).drew = (putRow (Value.int .i64) w blk 0 (rowA N (fun i => if i = j then y else if i = k then x else f i))).drewN (q + 1) := by
  have e1 := putRow_set (Value.int .i64) w blk 0 (rowA N f) k x (by rw [rowA_size]; exact hk)
  have e2 := putRow_set (Value.int .i64) w blk 0 ((rowA N f).setIfInBounds k x) j y (by rw [rowA_set, rowA_size]; exact hj)
  rw [rowA_set, rowA_set] at e2
  rw [← e2, ← rowA_set, ← e1]
  simp only [Nat.zero_add]
  rfl
theorem wht_small {m : Nat} {B : Int} {g : Nat → Int} (hB : B = 2 ^ m) (h1 : B ≤ 64) (hb : ∀ i, -16777216 ≤ g i ∧ g i ≤ 16777216) (i : Nat) : -1073741824 ≤ wht m g i ∧ wht m g i ≤ 1073741824 := by
  have h := wht_bound (m := m) hb i
  rw [← hB] at h
  omega

set_option maxHeartbeats 1000000 in
set_option maxRecDepth 100000 in
theorem transform_any (g : Nat → Int) (n N M blk cap : Nat) (w : World) (hN : N = 2 ^ M) (hn : n * n = N) (hM : M ≤ 6) (hn8 : n ≤ 8) (hH : Holds (Value.int .i64) w blk 0 (rowA N g)) (hb : ∀ i, -16777216 ≤ g i ∧ g i ≤ 16777216) :
    Calls Tryd.prog 46 #[.slice (some ⟨blk, 0, none⟩) N cap, .int .i64 n] w fun e w' => e = .returned (.tuple #[]) ∧ ∃ q, w' = (putRow (Value.int .i64) w blk 0 (rowA N (wht M g))).drewN q := by
  have HN := Lib.hid hN
  have hnn : (n : Int) * n = N := by rw [← hn]; push_cast; rfl
  have hN64 : N ≤ 64 := by rw [hN]; exact Nat.pow_le_pow_right (by omega) hM
  have hN1 : 1 ≤ N := by rw [hN]; exact Nat.one_le_two_pow
  clear hN
  go_enter Tryd.func46, Tryd.ntmps46
  go_wp2
  go_loopw [4] (fun bv wr => ∃ (m q : Nat) (B : Int), m ≤ M ∧ bv = .int .i64 B ∧ Hid (B = 2 ^ m) ∧ wr = (putRow (Value.int .i64) w blk 0 (rowA N (wht m g))).drewN q) (fun bv _ => 128 - (intOf bv).toNat)
  case atStart => exact ⟨0, 0, 1, Nat.zero_le _, rfl, rfl, (putRow_self _ _ _ _ _ hH).symm⟩
  case round =>
    obtain ⟨m, q, B, hm, rfl, HB, rfl⟩ := hrel
    by_cases hlt : m < M
    · have hB1 : 1 ≤ B := by
        have := Nat.one_le_two_pow (n := m)
        have e : B = ((2 ^ m : Nat) : Int) := by rw [HB.out]; push_cast; rfl
        omega
      have hB2 : B < N := by
        have := Nat.pow_lt_pow_right (show 1 < 2 by omega) hlt
        have e : B = ((2 ^ m : Nat) : Int) := by rw [HB.out]; push_cast; rfl
        rw [e, HN.out]
        exact_mod_cast this
      have hBnn : B < (n : Int) * n := by omega
      obtain ⟨gm, hgm⟩ : ∃ gm, gm = wht m g := ⟨_, rfl⟩
      rw [← hgm]
      have HG := Lib.hid hgm
      have hH' : Holds (Value.int .i64) (putRow (Value.int .i64) w blk 0 (rowA N gm)) blk 0 (rowA N gm) := holds_putRow _ _ _ _ _ _ hH (by rw [rowA_size, rowA_size])
      clear hgm hH
      go_wp2
      go_loopw [15] (fun iv wr => ∃ (k q' : Nat), k ≤ N ∧ iv = .int .i64 k ∧ Hid (wr = (putRow (Value.int .i64) w blk 0 (rowA N (wmid m k gm))).drewN q')) (fun iv _ => N - (intOf iv).toNat)
      case atStart => exact ⟨0, q, Nat.zero_le _, rfl, by show _ = _; rw [wmid_zero]⟩
      case round =>
        obtain ⟨k, q', hk, rfl, HW⟩ := hrel
        by_cases hkN : k < N
        · by_cases hbit : k.testBit m = true
          · have hz := bits_yes HB.out (by omega) (by omega) hbit
            go_wp2
            go_roundw
            case rel => exact ⟨k + 1, q', by omega, by go_num, by show _ = _; rw [wmid_skip _ hbit]; exact HW.out⟩
            case measure => simp [intOf]; omega
          · have hbit' : k.testBit m = false := by simpa using hbit
            obtain ⟨hz, hor⟩ := bits_no HB.out (by omega) (by omega) hbit'
            have hfl : flip m k < N := by rw [HN.out] at hkN ⊢; exact flip_lt hkN hlt
            obtain ⟨j, hj⟩ : ∃ j, j = flip m k := ⟨_, rfl⟩
            rw [← hj] at hor hfl
            have hjk : j ≠ k := fun e => by
              have h1 := flip_bit m k
              rw [← hj, e, hbit'] at h1
              cases h1
            obtain ⟨s1, s2⟩ := wmid_self gm hbit'
            rw [← hj] at s2
            obtain ⟨x, hx⟩ : ∃ x, gm k = x := ⟨_, rfl⟩
            obtain ⟨y, hy⟩ : ∃ y, gm j = y := ⟨_, rfl⟩
            have hK := holds_putRow _ _ _ _ _ (rowA N (wmid m k gm)) hH' (by rw [rowA_size, rowA_size])
            rw [putRow_putRow _ _ _ _ _ _ (by rw [rowA_size, rowA_size])] at hK
            obtain ⟨ck, fk⟩ := hK k (by rw [rowA_size]; exact hkN)
            obtain ⟨cj, fj⟩ := hK j (by rw [rowA_size]; exact hfl)
            rw [rowA_get hkN, s1, hx] at ck
            rw [rowA_get hfl, s2, hy] at cj
            have ck' : wr.cell? ⟨blk, k, none⟩ = some (.int .i64 x) := by rw [HW.out]; simpa using ck
            have cj' : wr.cell? ⟨blk, j, none⟩ = some (.int .i64 y) := by rw [HW.out]; simpa using cj
            have fk' : wr.frozen? ⟨blk, k, none⟩ = false := by rw [HW.out]; simpa using fk
            have fj' : wr.frozen? ⟨blk, j, none⟩ = false := by rw [HW.out]; simpa using fj
            have bx : -1073741824 ≤ x ∧ x ≤ 1073741824 := by rw [← hx, HG.out]; exact wht_small HB.out (by omega) hb k
            have by' : -1073741824 ≤ y ∧ y ≤ 1073741824 := by rw [← hy, HG.out]; exact wht_small HB.out (by omega) hb j
            have HS := Lib.hid s1
            have HX := Lib.hid hx
            have HY := Lib.hid hy
            have HJ := Lib.hid hj
            clear s1 s2 hK ck fk cj fj hx hy hj
            go_wp2
            go_region
            all_goals go_wp2
            all_goals go_roundw
            case rel =>
              refine ⟨k + 1, q' + 1, by omega, by go_num, ?_⟩
              show _ = _
              rw [HW.out, two_sets hkN hfl]
              congr 2
              apply rowA_congr
              intro i _
              rw [wmid_step gm hbit', ← HJ.out, HX.out, HY.out]
            case measure => simp [intOf]; omega
        · have hkk : k = N := by omega
          subst hkk
          go_wp2
          go_roundw
          case rel =>
            refine ⟨m + 1, q', B * 2, by omega, rfl, by show _ = _; rw [HB.out, Int.pow_succ], ?_⟩
            rw [HW.out]
            congr 2
            apply rowA_congr
            intro i hi
            rw [wht, ← HG.out]
            rw [HN.out] at hi ⊢
            exact wmid_end gm hlt (Nat.le_refl _) hi
          case measure => simp [intOf]; omega
    · have hmm : m = M := by omega
      subst hmm
      have hBN : B = n * n := by rw [hnn, HN.out, HB.out]; push_cast; rfl
      go_wp2
      go_end0
      exact ⟨rfl, q, rfl⟩
end Go.Proofs.YtbmknmenaaanaaaDoor
