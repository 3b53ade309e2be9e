/- Contracts of this seat: WMath, WTrans, WFwd, WInv, W8, WSigns, W8Math, WFlat. -/
import Derived.Test.YtcekpngkfldgkaaGreatDoorCards
import Derived.Test.YtcekpngkfldgkaaGreatDoorXZb
import Derived.WalkKit
import Derived.Sort.WalkC
import Derived.Deep.LoopGhost
import Derived.Deep.QuietTactic
import Derived.BigRegion
import Derived.BigQuiet
import Derived.Lib.Hide
import Derived.Lib.OwnBridge
import Derived.Lib.BufferMore
import Derived.Test.YtcekpngkfldgkaaGreatDoorXZa
namespace Go.Proofs.YtcekpngkfldgkaaGreatDoor
set_option linter.unusedVariables false
set_option linter.unusedSimpArgs false
def flip (m i : Nat) : Nat := i ^^^ 2 ^ m
theorem flip_flip (m i : Nat) : flip m (flip m i) = i := by unfold flip; rw [Nat.xor_assoc, Nat.xor_self, Nat.xor_zero]
theorem flip_comm (m k i : Nat) : flip m (flip k i) = flip k (flip m i) := by unfold flip; rw [Nat.xor_assoc, Nat.xor_assoc, Nat.xor_comm (2 ^ k)]
theorem flip_bit (m i : Nat) : (flip m i).testBit m = !i.testBit m := by simp [flip, Nat.testBit_xor, Nat.testBit_two_pow_self]
theorem flip_other {m k : Nat} (h : m ≠ k) (i : Nat) : (flip m i).testBit k = i.testBit k := by simp [flip, Nat.testBit_xor, Nat.testBit_two_pow_of_ne h]
theorem flip_lt {m M i : Nat} (h : i < 2 ^ M) (hm : m < M) : flip m i < 2 ^ M := Nat.xor_lt_two_pow h (Nat.pow_lt_pow_right (by omega) hm)
def wpass (m : Nat) (f : Nat → Int) (i : Nat) : Int := if i.testBit m then f (flip m i) - f i else f i + f (flip m i)
def wht : Nat → (Nat → Int) → Nat → Int
 | 0, f => f
 | m + 1, f => wpass m (wht m f)
theorem wpass_bound {m : Nat} {B : Int} {f : Nat → Int} (h : ∀ i, -B ≤ f i ∧ f i ≤ B) (i : Nat) : -(2 * B) ≤ wpass m f i ∧ wpass m f i ≤ 2 * B := by
 have h1 := h i
 have h2 := h (flip m i)
 unfold wpass
 split <;> omega
theorem wht_bound {m : Nat} {B : Int} {f : Nat → Int} (h : ∀ i, -B ≤ f i ∧ f i ≤ B) (i : Nat) : -(2 ^ m * B) ≤ wht m f i ∧ wht m f i ≤ 2 ^ m * B := by
 induction m generalizing i with
 | zero => simpa [wht] using h i
 | succ m ih =>
   have := wpass_bound (m := m) ih i
   rw [wht, Int.pow_succ, Int.mul_comm (2 ^ m) 2, Int.mul_assoc]
   exact this
def wmid (m k : Nat) (g : Nat → Int) (j : Nat) : Int := if j.testBit m then (if flip m j < k then g (flip m j) - g j else g j) else (if j < k then g j + g (flip m j) else g j)
theorem wmid_zero (m : Nat) (g : Nat → Int) : wmid m 0 g = g := by
 funext j
 unfold wmid
 split <;> simp
theorem wmid_end {m k M : Nat} (g : Nat → Int) (hm : m < M) (hk : 2 ^ M ≤ k) {j : Nat} (hj : j < 2 ^ M) : wmid m k g j = wpass m g j := by
 have := flip_lt hj hm
 unfold wmid wpass
 rw [if_pos (by omega : flip m j < k), if_pos (by omega : j < k)]
theorem wmid_skip {m k : Nat} (g : Nat → Int) (h : k.testBit m = true) : wmid m (k + 1) g = wmid m k g := by
 funext j
 unfold wmid
 by_cases hj : j.testBit m = true
 · rw [if_pos hj, if_pos hj]
   have : flip m j ≠ k := fun e => by
    have h1 := flip_bit m j
    rw [e, h, hj] at h1
    cases h1
   by_cases h2 : flip m j < k
   · rw [if_pos h2, if_pos (by omega)]
   · rw [if_neg h2, if_neg (by omega)]
 · rw [if_neg hj, if_neg hj]
   have : j ≠ k := fun e => by rw [e] at hj; exact hj h
   by_cases h2 : j < k
   · rw [if_pos h2, if_pos (by omega)]
   · rw [if_neg h2, if_neg (by omega)]
theorem wmid_self {m k : Nat} (g : Nat → Int) (h : k.testBit m = false) : wmid m k g k = g k ∧ wmid m k g (flip m k) = g (flip m k) := by
 unfold wmid
 rw [flip_bit, flip_flip, h]
 simp
theorem wmid_step {m k : Nat} (g : Nat → Int) (h : k.testBit m = false) (j : Nat) :
 wmid m (k + 1) g j = if j = flip m k then g k - g (flip m k) else if j = k then g k + g (flip m k) else wmid m k g j := by
 by_cases h1 : j = flip m k
 · subst h1
   rw [if_pos rfl]
   unfold wmid
   rw [flip_bit, flip_flip, h]
   simp
 · rw [if_neg h1]
   by_cases h2 : j = k
   · subst h2
     rw [if_pos rfl]
     unfold wmid
     rw [h]
     simp
   · rw [if_neg h2]
     unfold wmid
     have h3 : flip m j ≠ k := fun e => h1 (by rw [← e, flip_flip])
     by_cases hj : j.testBit m = true
     · rw [if_pos hj, if_pos hj]
       by_cases h4 : flip m j < k
       · rw [if_pos h4, if_pos (by omega)]
       · rw [if_neg h4, if_neg (by omega)]
     · rw [if_neg hj, if_neg hj]
       by_cases h4 : j < k
       · rw [if_pos h4, if_pos (by omega)]
       · rw [if_neg h4, if_neg (by omega)]
open Go.RowKit Go.Sort
theorem bits_tab : ∀ k < 64, ∀ m < 6, bits .and .i64 (k : Nat) ((2 ^ m : Nat) : Int) = (if Nat.testBit k m then ((2 ^ m : Nat) : Int) else 0) ∧ (Nat.testBit k m = false → bits .or .i64 (k : Nat) ((2 ^ m : Nat) : Int) = (flip m k : Nat)) := by
 decide +kernel
theorem bits_yes {k m : Nat} {B : Int} (hB : B = 2 ^ m) (hk : k < 64) (hm : m < 6) (h : k.testBit m = true) : (bits .and .i64 (k : Int) B == 0) = false := by
 have e : B = ((2 ^ m : Nat) : Int) := by rw [hB]; push_cast; rfl
 rw [e, (bits_tab k hk m hm).1, if_pos h]
 have := Nat.one_le_two_pow (n := m)
 exact beq_eq_false_iff_ne.2 (by omega)
theorem bits_no {k m : Nat} {B : Int} (hB : B = 2 ^ m) (hk : k < 64) (hm : m < 6) (h : k.testBit m = false) : (bits .and .i64 (k : Int) B == 0) = true ∧ bits .or .i64 (k : Int) B = (flip m k : Nat) := by
 have e : B = ((2 ^ m : Nat) : Int) := by rw [hB]; push_cast; rfl
 rw [e, (bits_tab k hk m hm).1, if_neg (by rw [h]; decide)]
 exact ⟨rfl, (bits_tab k hk m hm).2 h⟩
theorem two_sets {w : World} {blk N q k j : Nat} {f : Nat → Int} {x y : Int} (hk : k < N) (hj : j < N) :
 ((((putRow (Value.int .i64) w blk 0 (rowA N f)).drewN q).setCell ⟨blk, k, none⟩ (.int .i64 x)).setCell ⟨blk, j, none⟩ (.int .i64 y)).drew = (putRow (Value.int .i64) w blk 0 (rowA N (fun i => if i = j then y else if i = k then x else f i))).drewN (q + 1) := by
 have e1 := putRow_set (Value.int .i64) w blk 0 (rowA N f) k x (by rw [rowA_size]; exact hk)
 have e2 := putRow_set (Value.int .i64) w blk 0 ((rowA N f).setIfInBounds k x) j y (by rw [rowA_set, rowA_size]; exact hj)
 rw [rowA_set, rowA_set] at e2
 rw [← e2, ← rowA_set, ← e1]
 simp only [Nat.zero_add]
 rfl
theorem wht_small {m : Nat} {B : Int} {g : Nat → Int} (hB : B = 2 ^ m) (h1 : B ≤ 64) (hb : ∀ i, -16777216 ≤ g i ∧ g i ≤ 16777216) (i : Nat) : -1073741824 ≤ wht m g i ∧ wht m g i ≤ 1073741824 := by
 have h := wht_bound (m := m) hb i
 rw [← hB] at h
 omega
set_option maxHeartbeats 1000000 in
set_option maxRecDepth 100000 in
theorem transform_any (g : Nat → Int) (n N M blk cap : Nat) (w : World) (hN : N = 2 ^ M) (hn : n * n = N) (hM : M ≤ 6) (hn8 : n ≤ 8) (hH : Holds (Value.int .i64) w blk 0 (rowA N g)) (hb : ∀ i, -16777216 ≤ g i ∧ g i ≤ 16777216) :
 Calls Tryz.prog 161 #[.slice (some ⟨blk, 0, none⟩) N cap, .int .i64 n] w fun e w' => e = .returned (.tuple #[]) ∧ ∃ q, w' = (putRow (Value.int .i64) w blk 0 (rowA N (wht M g))).drewN q := by
 have HN := Lib.hid hN
 have hnn : (n : Int) * n = N := by rw [← hn]; push_cast; rfl
 have hN64 : N ≤ 64 := by rw [hN]; exact Nat.pow_le_pow_right (by omega) hM
 have hN1 : 1 ≤ N := by rw [hN]; exact Nat.one_le_two_pow
 clear hN
 go_enter Tryz.func161, Tryz.ntmps161
 go_wp2
 go_loopw [4] (fun bv wr => ∃ (m q : Nat) (B : Int), m ≤ M ∧ bv = .int .i64 B ∧ Hid (B = 2 ^ m) ∧ wr = (putRow (Value.int .i64) w blk 0 (rowA N (wht m g))).drewN q) (fun bv _ => 128 - (intOf bv).toNat)
 case atStart => exact ⟨0, 0, 1, Nat.zero_le _, rfl, rfl, (putRow_self _ _ _ _ _ hH).symm⟩
 case round =>
  obtain ⟨m, q, B, hm, rfl, HB, rfl⟩ := hrel
  by_cases hlt : m < M
  · have hB1 : 1 ≤ B := by
     have := Nat.one_le_two_pow (n := m)
     have e : B = ((2 ^ m : Nat) : Int) := by rw [HB.out]; push_cast; rfl
     omega
    have hB2 : B < N := by
     have := Nat.pow_lt_pow_right (show 1 < 2 by omega) hlt
     have e : B = ((2 ^ m : Nat) : Int) := by rw [HB.out]; push_cast; rfl
     rw [e, HN.out]
     exact_mod_cast this
    have hBnn : B < (n : Int) * n := by omega
    obtain ⟨gm, hgm⟩ : ∃ gm, gm = wht m g := ⟨_, rfl⟩
    rw [← hgm]
    have HG := Lib.hid hgm
    have hH' : Holds (Value.int .i64) (putRow (Value.int .i64) w blk 0 (rowA N gm)) blk 0 (rowA N gm) := holds_putRow _ _ _ _ _ _ hH (by rw [rowA_size, rowA_size])
    clear hgm hH
    go_wp2
    go_loopw [15] (fun iv wr => ∃ (k q' : Nat), k ≤ N ∧ iv = .int .i64 k ∧ Hid (wr = (putRow (Value.int .i64) w blk 0 (rowA N (wmid m k gm))).drewN q')) (fun iv _ => N - (intOf iv).toNat)
    case atStart => exact ⟨0, q, Nat.zero_le _, rfl, by show _ = _; rw [wmid_zero]⟩
    case round =>
     obtain ⟨k, q', hk, rfl, HW⟩ := hrel
     by_cases hkN : k < N
     · by_cases hbit : k.testBit m = true
       · have hz := bits_yes HB.out (by omega) (by omega) hbit
         go_wp2
         go_roundw
         case rel => exact ⟨k + 1, q', by omega, by go_num, by show _ = _; rw [wmid_skip _ hbit]; exact HW.out⟩
         case measure => simp [intOf]; omega
       · have hbit' : k.testBit m = false := by simpa using hbit
         obtain ⟨hz, hor⟩ := bits_no HB.out (by omega) (by omega) hbit'
         have hfl : flip m k < N := by rw [HN.out] at hkN ⊢; exact flip_lt hkN hlt
         obtain ⟨j, hj⟩ : ∃ j, j = flip m k := ⟨_, rfl⟩
         rw [← hj] at hor hfl
         have hjk : j ≠ k := fun e => by
          have h1 := flip_bit m k
          rw [← hj, e, hbit'] at h1
          cases h1
         obtain ⟨s1, s2⟩ := wmid_self gm hbit'
         rw [← hj] at s2
         obtain ⟨x, hx⟩ : ∃ x, gm k = x := ⟨_, rfl⟩
         obtain ⟨y, hy⟩ : ∃ y, gm j = y := ⟨_, rfl⟩
         have hK := holds_putRow _ _ _ _ _ (rowA N (wmid m k gm)) hH' (by rw [rowA_size, rowA_size])
         rw [putRow_putRow _ _ _ _ _ _ (by rw [rowA_size, rowA_size])] at hK
         obtain ⟨ck, fk⟩ := hK k (by rw [rowA_size]; exact hkN)
         obtain ⟨cj, fj⟩ := hK j (by rw [rowA_size]; exact hfl)
         rw [rowA_get hkN, s1, hx] at ck
         rw [rowA_get hfl, s2, hy] at cj
         have ck' : wr.cell? ⟨blk, k, none⟩ = some (.int .i64 x) := by rw [HW.out]; simpa using ck
         have cj' : wr.cell? ⟨blk, j, none⟩ = some (.int .i64 y) := by rw [HW.out]; simpa using cj
         have fk' : wr.frozen? ⟨blk, k, none⟩ = false := by rw [HW.out]; simpa using fk
         have fj' : wr.frozen? ⟨blk, j, none⟩ = false := by rw [HW.out]; simpa using fj
         have bx : -1073741824 ≤ x ∧ x ≤ 1073741824 := by rw [← hx, HG.out]; exact wht_small HB.out (by omega) hb k
         have by' : -1073741824 ≤ y ∧ y ≤ 1073741824 := by rw [← hy, HG.out]; exact wht_small HB.out (by omega) hb j
         have HS := Lib.hid s1
         have HX := Lib.hid hx
         have HY := Lib.hid hy
         have HJ := Lib.hid hj
         clear s1 s2 hK ck fk cj fj hx hy hj
         go_wp2
         go_region
         all_goals go_wp2
         all_goals go_roundw
         case rel =>
          refine ⟨k + 1, q' + 1, by omega, by go_num, ?_⟩
          show _ = _
          rw [HW.out, two_sets hkN hfl]
          congr 2
          apply rowA_congr
          intro i _
          rw [wmid_step gm hbit', ← HJ.out, HX.out, HY.out]
         case measure => simp [intOf]; omega
     · have hkk : k = N := by omega
       subst hkk
       go_wp2
       go_roundw
       case rel =>
        refine ⟨m + 1, q', B * 2, by omega, rfl, by show _ = _; rw [HB.out, Int.pow_succ], ?_⟩
        rw [HW.out]
        congr 2
        apply rowA_congr
        intro i hi
        rw [wht, ← HG.out]
        rw [HN.out] at hi ⊢
        exact wmid_end gm hlt (Nat.le_refl _) hi
       case measure => simp [intOf]; omega
  · have hmm : m = M := by omega
    subst hmm
    have hBN : B = n * n := by rw [hnn, HN.out, HB.out]; push_cast; rfl
    go_wp2
    go_end0
    exact ⟨rfl, q, rfl⟩
open Go.RowKit Go.Extern.Stop Go.Stop Go.Extern
theorem getD_bound {F : Int} {zs : List Int} (h : within (-F) F zs) (hF : 0 ≤ F) (i : Nat) : -F ≤ zs.getD i 0 ∧ zs.getD i 0 ≤ F := by
 by_cases hi : i < zs.length
 · have e : zs[i]? = some (zs.getD i 0) := by simp [hi]
   exact h.at e
 · have e : zs.getD i 0 = 0 := by simp [hi]
   rw [e]
   omega
set_option maxHeartbeats 1000000 in
set_option maxRecDepth 20000 in
theorem clone_ints (zs : List Int) (v : Value) (w : World) (ha : Ints w v zs) (hl : zs.length ≤ 1000000) (h1 : 1 ≤ zs.length) :
 Calls Tryz.prog 60 #[v] w fun e w' => ∃ u, e = .returned u ∧ w'.ownsRow w.heap.size 3 1 u zs.length (zs.map (Value.int .i64)) ∧ Ext w w' := by
 obtain ⟨i0, hi, hz0, hz1, hz2⟩ := info_parts infoInt
 obtain ⟨n, hn⟩ : ∃ n, n = zs.length := ⟨_, rfl⟩
 have E1 : Ext w (w.alloc (.cells #[] 3)) := (Ext.refl w).alloc _
 have hown : (w.alloc (.cells #[] 3)).ownsRow w.heap.size 3 1 (.slice (some ⟨w.heap.size, 0, none⟩) 0 0) 0 [] := World.ownsRow_made w #[] 0 (Nat.le_refl _) (Nat.zero_le _) rfl
 have fin : ∀ (v' : Value) (w' : World), w'.ownsRow w.heap.size 3 1 v' (0 + n) ([] ++ zs.map (Value.int .i64)) → (w.alloc (.cells #[] 3)).grownBy w' (some w.heap.size) → w'.ownsRow w.heap.size 3 1 v' n (zs.map (Value.int .i64)) ∧ Ext w w' := fun v' w' h1 h2 =>
  ⟨by simpa using h1, Below.grown E1 h2 (by simp) (fun k hk => by cases hk; exact Nat.le_refl _)⟩
 have FIN := Lib.hid fin
 clear fin
 obtain ⟨g, off, cap, rfl, c1, c2⟩ := ha.addr (by omega)
 rw [← hn] at ha hl c1 h1 ⊢
 have hnews := news_of_ints (ha.ext E1)
 have HN := Lib.hid hn
 have HW := Lib.hid hnews
 clear hn hnews
 have hnl := Lib.run_eql_slice_some_nil (P := Tryz.prog) w (t := 22) (e := 3) ⟨g, off, none⟩ n cap Tryz.underlying22
 go_enter Tryz.func60, Tryz.ntmps60
 go_wp2_with (at_builtin; refine wpList_append_own _ rfl _ _ 22 rfl w.heap.size 3 i0 (.int .i64 0) 1 8 Tryz.underlying22 hi hz0 hz1 hz2 rfl (by decide) _ 0 [] rfl hown ⟨g, off, none⟩ n cap (zs.map (Value.int .i64)) rfl (by simp [HN.out]) HW.out (ints_one zs) (by unfold maxLen; omega) (by omega) (by simp) ?_; intro v' w' h1 h2 _)
 go_ret
 exact ⟨_, rfl, FIN.out _ _ h1 h2⟩
theorem side_fit (n : Nat) (F : Int) (v : Value) (w : World) (hv : ∃ a cap, v = .slice a n cap) (h1 : n ≠ 16) (h2 : n ≠ 64) :
 Calls Tryz.prog 160 #[v, .int .i64 F] w fun e w' => e = .returned (.tuple #[.int .i64 0, .iface 40 (.int .i64 14)]) ∧ w' = w := by
 obtain ⟨a, cap, rfl⟩ := hv
 have b1 : ((n : Int) != 16) = true := by simp; omega
 have b2 : ((n : Int) != 64) = true := by simp; omega
 go_enter Tryz.func160, Tryz.ntmps160
 go_wp2
 go_ret2
 exact ⟨rfl, rfl⟩
set_option maxHeartbeats 1000000 in
set_option maxRecDepth 20000 in
theorem wside_any (zs : List Int) (n : Nat) (F S : Int) (v : Value) (w : World) (ha : Ints w v zs) (hn : n = zs.length) (hS : n = 16 ∧ S = 4 ∨ n = 64 ∧ S = 8) (hF : 0 ≤ F) (hF' : F ≤ 16777216) (r : Value) (hr : Hid (r = if within (-F) F zs then .tuple #[.int .i64 S, .nilIface] else .tuple #[.int .i64 0, .iface 40 (.int .i64 3)])) :
 Calls Tryz.prog 160 #[v, .int .i64 F] w fun e w' => e = .returned r ∧ w' = w := by
 obtain ⟨g, off, cap, rfl, c1, c2⟩ := ha.addr (by omega)
 rw [← hn] at ha c1 ⊢
 have HN := Lib.hid hn
 unfold maxLen at c2
 clear hn
 have hB : (((n : Int) != 16) = false ∧ ((n : Int) == 16) = true ∧ S = 4 ∧ ((n : Int) != 64) = true) ∨ (((n : Int) != 16) = true ∧ ((n : Int) == 16) = false ∧ S = 8 ∧ ((n : Int) != 64) = false) := by
  rcases hS with ⟨rfl, rfl⟩ | ⟨rfl, rfl⟩
  · exact Or.inl ⟨rfl, rfl, rfl, rfl⟩
  · exact Or.inr ⟨rfl, rfl, rfl, rfl⟩
 clear hS
 rcases hB with ⟨b1, b2, rfl, b3⟩ | ⟨b1, b2, rfl, b3⟩
 all_goals
  go_enter Tryz.func160, Tryz.ntmps160
  go_wp2
  go_loop [19] (fun iv => ∃ k : Nat, k ≤ n ∧ iv = .int .i64 k ∧ Hid (∀ j x, j < k → zs[j]? = some x → -F ≤ x ∧ x ≤ F)) (fun iv => n - (intOf iv).toNat)
  case atStart => exact ⟨0, Nat.zero_le _, rfl, fun j _ hj => absurd hj (Nat.not_lt_zero _)⟩
  case round =>
   obtain ⟨k, hk, rfl, HJ⟩ := hrel
   by_cases hlt : k < n
   · obtain ⟨x, hx⟩ : ∃ x, zs[k]? = some x := ⟨_, List.getElem?_eq_getElem (by rw [← HN.out]; exact hlt)⟩
     have cx := ha.at hx
     have HX := Lib.hid hx
     clear hx
     by_cases h1 : x < -F
     · go_wp2
       go_ret2
       refine ⟨?_, rfl⟩
       have : ¬ within (-F) F zs := fun hw => by have := (hw.at HX.out).1; omega
       rw [hr.out, if_neg this]
       rfl
     · by_cases h2 : F < x
       · go_wp2
         go_ret2
         refine ⟨?_, rfl⟩
         have : ¬ within (-F) F zs := fun hw => by have := (hw.at HX.out).2; omega
         rw [hr.out, if_neg this]
         rfl
       · go_wp2
         go_round
         case rel => exact ⟨k + 1, by omega, by go_num, fun j y hj hy => by
          by_cases hjk : j = k
          · subst hjk
            have : x = y := Option.some.inj (HX.out.symm.trans hy)
            omega
          · exact HJ.out j y (by omega) hy⟩
         case measure => simp [intOf]; omega
   · go_wp2
     go_ret2
     refine ⟨?_, rfl⟩
     have : within (-F) F zs := within_of_gets fun j x hj hx => HJ.out j x (by rw [← HN.out] at hj; omega) hx
     rw [hr.out, if_pos this]
     rfl
open Go.RowKit Go.Extern.Stop Go.Stop Go.Extern Go.Sort
def lgN (n : Nat) : Nat := if n = 16 then 4 else 6
def blkAns (zs : List Int) (F : Int) : Option Int := if zs.length = 16 ∨ zs.length = 64 then (if within (-F) F zs then none else some 3) else some 14
def WPost (w : World) (ans : Option Int) (out : List Int) (e : Ending) (w' : World) : Prop :=
 ∃ u x, e = .returned (.tuple #[u, x]) ∧ Ext w w' ∧ match ans with
   | none => w'.ownsRow w.heap.size 3 1 u out.length (out.map (Value.int .i64)) ∧ x = .nilIface
   | some k => u = .slice none 0 0 ∧ x = .iface 40 (.int .i64 k)
theorem inverse_fit (zs : List Int) (v : Value) (w : World) (ha : Ints w v zs) (h1 : zs.length ≠ 16) (h2 : zs.length ≠ 64) (out : List Int) :
 Calls Tryz.prog 132 #[v] w (WPost w (some 14) out) := by
 obtain ⟨a, cap, rfl⟩ := ha.form
 go_enter Tryz.func132, Tryz.ntmps132
 go_wp2_with fail
 refine (side_fit zs.length _ _ _ ⟨a, cap, rfl⟩ h1 h2).mono ?_; rintro e w1 ⟨rfl, rfl⟩
 go_wp2
 go_ret2
 exact ⟨_, _, rfl, Ext.refl _, rfl, rfl⟩
theorem inverse_range (zs : List Int) (v : Value) (w : World) (ha : Ints w v zs) (hn : zs.length = 16 ∨ zs.length = 64) (hw : ¬ within (-16777216) 16777216 zs) (out : List Int) :
 Calls Tryz.prog 132 #[v] w (WPost w (some 3) out) := by
 go_enter Tryz.func132, Tryz.ntmps132
 go_wp2_with fail
 refine (wside_any zs zs.length 16777216 (if zs.length = 16 then 4 else 8) _ _ ha rfl (by rcases hn with h | h <;> simp [h]) (by decide) (by decide) _ (by show _ = _; rw [if_neg hw])).mono ?_; rintro e w1 ⟨rfl, rfl⟩
 go_wp2
 go_ret2
 exact ⟨_, _, rfl, Ext.refl _, rfl, rfl⟩
def invF (M : Nat) (f : Nat → Int) (i : Nat) : Int := (wht M f i + 2 ^ M / 2) / 2 ^ M
def midF (k M : Nat) (f : Nat → Int) (j : Nat) : Int := if j < k then invF M f j else wht M f j
set_option maxRecDepth 100000 in
theorem len_four (w : World) : Calls Tryz.prog 162 #[.int .u64 3] w fun e w' => e = .returned (.int .i64 2) ∧ w' = w := by
 go_enter Tryz.func162, Tryz.ntmps162
 go_wp2
 go_ret
 exact ⟨by kernel_rfl, rfl⟩
set_option maxRecDepth 100000 in
theorem len_eight (w : World) : Calls Tryz.prog 162 #[.int .u64 7] w fun e w' => e = .returned (.int .i64 3) ∧ w' = w := by
 go_enter Tryz.func162, Tryz.ntmps162
 go_wp2
 go_ret
 exact ⟨by kernel_rfl, rfl⟩
set_option maxHeartbeats 1000000 in
set_option maxRecDepth 20000 in
theorem inverse_ok (zs : List Int) (n N M : Nat) (v : Value) (w : World) (ha : Ints w v zs) (hN : N = zs.length) (hn : N = 16 ∧ n = 4 ∧ M = 4 ∨ N = 64 ∧ n = 8 ∧ M = 6) (hw : within (-16777216) 16777216 zs) (out : List Int) (hout : Hid (out = rowL N (invF M (fun i => zs.getD i 0)))) :
 Calls Tryz.prog 132 #[v] w (WPost w none out) := by
 have F1 : N ≤ 64 ∧ 1 ≤ N ∧ N = 2 ^ M ∧ n * n = N ∧ M ≤ 6 ∧ n ≤ 8 := by rcases hn with ⟨rfl, rfl, rfl⟩ | ⟨rfl, rfl, rfl⟩ <;> decide
 have HF := Lib.hid F1
 obtain ⟨a, cap, rfl⟩ := ha.form
 have side := fun W (h : Ints W (.slice a zs.length cap) zs) => wside_any zs N 16777216 (n : Int) _ W h hN (by rcases hn with ⟨h1, h2, _⟩ | ⟨h1, h2, _⟩ <;> subst h1 h2 <;> decide) (by decide) (by decide) _ (show Hid (_ = _) from (if_pos hw).symm)
 have cln := fun W (h : Ints W (.slice a zs.length cap) zs) => clone_ints zs _ W h (by omega) (by omega)
 rw [← hN] at ha side cln ⊢
 have HS := Lib.hid side
 have HC := Lib.hid cln
 have HN := Lib.hid hN
 have HW := Lib.hid hw
 obtain ⟨L, hL, HL⟩ : ∃ L : Int, 2 * L = M ∧ Hid (∀ W, Calls Tryz.prog 162 #[.int .u64 ((n : Int) - 1)] W fun e w' => e = .returned (.int .i64 L) ∧ w' = W) := by
  rcases hn with ⟨_, rfl, rfl⟩ | ⟨_, rfl, rfl⟩
  · exact ⟨2, rfl, fun W => len_four W⟩
  · exact ⟨3, rfl, fun W => len_eight W⟩
 have hn1 : 1 ≤ n := by omega
 have hn8 : n ≤ 8 := by omega
 have hM6 : M ≤ 6 := by omega
 have hN64 : N ≤ 64 := by omega
 have hnn : (n : Int) * n ≤ 64 ∧ 0 ≤ (n : Int) * n := by rcases hn with ⟨_, rfl, rfl⟩ | ⟨_, rfl, rfl⟩ <;> decide
 obtain ⟨H, hdiv, hH0, hH1, HH2⟩ : ∃ H : Int, Int.tdiv ((n : Int) * n) 2 = H ∧ 0 ≤ H ∧ H ≤ 32 ∧ Hid (H = 2 ^ M / 2) := by
  rcases hn with ⟨_, rfl, rfl⟩ | ⟨_, rfl, rfl⟩
  · exact ⟨8, rfl, by decide, by decide, rfl⟩
  · exact ⟨32, rfl, by decide, by decide, rfl⟩
 clear side hw cln hN F1 hn
 go_enter Tryz.func132, Tryz.ntmps132
 go_wp2_with fail
 refine (HS.out _ ha).mono ?_; rintro e w1 ⟨rfl, rfl⟩
 go_wp2_with fail
 refine (HC.out _ ha).mono ?_; rintro e w2 ⟨u, rfl, hown, hE⟩
 obtain ⟨f1, f2, f3, f4, f5, f6⟩ := HF.out
 obtain ⟨g, cap', rfl, hg, hgl, hc1, hc2, -, hH⟩ := Lib.holds_of_ownsRow (enc := Value.int .i64) hown (by
  rintro rfl
  rcases hown.2 with ⟨_, h0⟩ | ⟨_, _, _, h0, _⟩
  · omega
  · cases h0)
 rw [← rowL_getD zs, rowL_arr, ← HN.out] at hH
 have hbd := fun i => getD_bound HW.out (by decide) i
 have HT := Lib.hid (transform_any (fun i => zs.getD i 0) n N M g cap' w2 f3 f4 f5 f6 hH (fun i => by have := hbd i; omega))
 have ho := fun q => Lib.ownsRow_putRow (q := q) (k := N) hown (rowL_length N (invF M (fun i => zs.getD i 0))) (Nat.le_refl _)
 have HO := Lib.hid ho
 obtain ⟨f, hf⟩ : ∃ f : Nat → Int, f = fun i => zs.getD i 0 := ⟨_, rfl⟩
 have HB : Hid (∀ i, -1073741824 ≤ wht M f i ∧ wht M f i ≤ 1073741824) := by
  intro i
  rw [hf]
  exact wht_small (B := 2 ^ M) rfl (by rw [show (2 : Int) ^ M = N by rw [f3]; push_cast; rfl]; omega) (fun i => by have := hbd i; omega) i
 rw [← hf] at HT HO
 have hH0 := hH
 rw [← hf] at hH0
 have HH := Lib.hid hH0
 rw [← hf] at hout
 clear ho hbd hH hH0 f3 f4 f5 f6
 go_wp2_with fail
 refine HT.out.mono ?_; rintro e w3 ⟨rfl, q, hq⟩
 have HQ := Lib.hid hq
 clear hq HT
 go_wp2_with fail
 refine (HL.out _).mono ?_; rintro e w4 ⟨rfl, rfl⟩
 go_wp2
 go_loopw [29] (fun iv wr => ∃ k : Nat, k ≤ N ∧ iv = .int .i64 k ∧ Hid (wr = (putRow (Value.int .i64) w2 g 0 (rowA N (midF k M f))).drewN q)) (fun iv _ => N - (intOf iv).toNat)
 case atStart => exact ⟨0, Nat.zero_le _, rfl, by
  show _ = _
  rw [HQ.out]
  congr 2⟩
 case round =>
  obtain ⟨k, hk, rfl, HW'⟩ := hrel
  by_cases hkN : k < N
  · obtain ⟨x, hx⟩ : ∃ x, wht M f k = x := ⟨_, rfl⟩
    have hK := holds_putRow _ _ _ _ _ (rowA N (midF k M f)) HH.out (by rw [rowA_size, rowA_size])
    obtain ⟨ck, fk⟩ := hK k (by rw [rowA_size]; exact hkN)
    have s1 : midF k M f k = x := by unfold midF; rw [if_neg (Nat.lt_irrefl _)]; exact hx
    rw [rowA_get hkN, s1] at ck
    have ck' : wr.cell? ⟨g, k, none⟩ = some (.int .i64 x) := by rw [HW'.out]; simpa using ck
    have fk' : wr.frozen? ⟨g, k, none⟩ = false := by rw [HW'.out]; simpa using fk
    have bx : -1073741824 ≤ x ∧ x ≤ 1073741824 := by rw [← hx]; exact HB.out k
    have HX := Lib.hid hx
    clear hx hK s1 ck fk
    go_wp2
    go_roundw
    case rel =>
     refine ⟨k + 1, by omega, by go_num, ?_⟩
     show _ = _
     rw [HW'.out, one_set hkN]
     congr 2
     apply rowA_congr
     intro i _
     unfold midF
     by_cases hik : i = k
     · subst hik
       rw [if_pos rfl, if_pos (by omega)]
       unfold invF
       rw [HX.out, HH2.out]
     · rw [if_neg hik]
       by_cases h2 : i < k
       · rw [if_pos h2, if_pos (by omega)]
       · rw [if_neg h2, if_neg (by omega)]
    case measure => simp [intOf]; omega
  · have hkk : k = N := by omega
    go_wp2
    go_ret2
    have e1 : wr = putRow (Value.int .i64) (Sort.ahead w2 q) g 0 (rowL N (invF M f)).toArray := by
     rw [HW'.out, rowL_arr, rowA_congr (g := invF M f) (fun j hj => by unfold midF; rw [if_pos (by omega)])]
     rfl
    refine ⟨_, _, rfl, ?_, ?_, rfl⟩
    · rw [e1]
      exact Lib.below_putRow hE hg
    · have := HO.out q
      rw [← e1, List.take_of_length_le (by rw [rowL_length]; exact Nat.le_refl _)] at this
      rw [hout.out, rowL_length]
      exact this
def invL (zs : List Int) : List Int := rowL zs.length (invF (lgN zs.length) (fun i => zs.getD i 0))
theorem inverse_all (zs : List Int) (v : Value) (w : World) (ha : Ints w v zs) : Calls Tryz.prog 132 #[v] w (WPost w (blkAns zs 16777216) (invL zs)) := by
 unfold blkAns
 split
 · rename_i h
   split
   · rename_i h2
     rcases h with h | h
     · exact inverse_ok zs 4 zs.length (lgN zs.length) v w ha rfl (Or.inl ⟨h, rfl, by rw [h]; rfl⟩) h2 _ rfl
     · exact inverse_ok zs 8 zs.length (lgN zs.length) v w ha rfl (Or.inr ⟨h, rfl, by rw [h]; rfl⟩) h2 _ rfl
   · rename_i h2
     exact inverse_range zs v w ha h h2 _
 · rename_i h
   exact inverse_fit zs v w ha (fun e => h (Or.inl e)) (fun e => h (Or.inr e)) _
def pc : Nat → Int
 | 0 => 0 | 1 => 1 | 2 => 1 | 3 => 2 | 4 => 1 | 5 => 2 | 6 => 2 | _ => 3
def sgn (u x : Nat) : Int := if pc (u &&& x) % 2 = 1 then -1 else 1
theorem zeros_row (n : Nat) : (madeCells (Value.int .i64 0).cells (n * 1)).toList = (rowL n fun _ => 0).map (Value.int .i64) := by
 apply List.ext_getElem?
 intro j
 by_cases hj : j < n <;> simp [madeCells, rowL, Value.cells, hj, Nat.mod_one]
def sgP (u x : Nat) : Nat → Int
 | 0 => 1
 | k + 1 => if Nat.testBit u k ∧ Nat.testBit x k then -sgP u x k else sgP u x k
theorem sgP_end : ∀ u < 8, ∀ x < 8, sgP u x 3 = sgn u x := by decide +kernel
theorem bit_tab : ∀ u < 8, ∀ k < 3, (bits .and .i64 ((u : Nat) / 2 ^ k : Int) 1 == 1) = Nat.testBit u k := by decide +kernel
set_option maxRecDepth 20000 in
theorem rsign_in (u x : Nat) (hu : u < 8) (hx : x < 8) (w : World) : Calls Tryz.prog 164 #[.int .i64 u, .int .i64 x] w fun e w' => e = .returned (.int .i64 (sgn u x)) ∧ w' = w := by
 go_enter Tryz.func164, Tryz.ntmps164
 go_wp2
 go_loop [5, 6] (fun sv kv => ∃ (k : Nat) (s : Int), k ≤ 3 ∧ kv = .int .i64 k ∧ sv = .int .i64 s ∧ (s = 1 ∨ s = -1) ∧ Hid (s = sgP u x k)) (fun _ kv => 3 - (intOf kv).toNat)
 case atStart => exact ⟨0, 1, by decide, rfl, rfl, Or.inl rfl, rfl⟩
 case round =>
  obtain ⟨k, s, hk, rfl, rfl, hs, HS⟩ := hrel
  by_cases hlt : k < 3
  · have t1 := bit_tab u hu k hlt
    have t2 := bit_tab x hx k hlt
    cases hu' : Nat.testBit u k <;> cases hx' : Nat.testBit x k
    all_goals
     rw [hu'] at t1
     rw [hx'] at t2
     go_wp2
     go_round
     case measure => simp [intOf]; omega
    case rel => exact ⟨k + 1, s, by omega, by go_num, rfl, hs, by show _ = _; rw [sgP, if_neg (by simp [hu'])]; exact HS.out⟩
    case rel => exact ⟨k + 1, s, by omega, by go_num, rfl, hs, by show _ = _; rw [sgP, if_neg (by simp [hu'])]; exact HS.out⟩
    case rel => exact ⟨k + 1, s, by omega, by go_num, rfl, hs, by show _ = _; rw [sgP, if_neg (by simp [hx'])]; exact HS.out⟩
    case rel => exact ⟨k + 1, -s, by omega, by go_num, rfl, by omega, by show _ = _; rw [sgP, if_pos ⟨hu', hx'⟩, HS.out]⟩
  · go_wp2
    go_ret
    have : k = 3 := by omega
    subst this
    refine ⟨?_, rfl⟩
    rw [← sgP_end u hu x hx, ← HS.out]
    rfl
theorem rowL_congr {N : Nat} {f g : Nat → Int} (h : ∀ j, j < N → f j = g j) : rowL N f = rowL N g := by
 unfold rowL
 apply List.map_congr_left
 intro j hj
 exact h j (List.mem_range.1 hj)
end Go.Proofs.YtcekpngkfldgkaaGreatDoor