/- wht.Forward and wht.Inverse: their contracts over this seat's translation. -/
import Derived.Test.YtbmknmenaaanaaaDoorWFwd
namespace Go.Proofs.YtbmknmenaaanaaaDoor
set_option linter.unusedVariables false
set_option linter.unusedSimpArgs false
open Go.RowKit Go.Extern.Stop Go.Stop Go.Extern Go.Sort

def lgN (n : Nat) : Nat := if n = 16 then 4 else 6
/-- the transform of a list -/
def fwdF (zs : List Int) : Nat → Int := wht (lgN zs.length) (fun i => zs.getD i 0)
def fwdL (zs : List Int) : List Int := rowL zs.length (fwdF zs)
/-- what forbids to transform a list -/
def blkAns (zs : List Int) (F : Int) : Option Int := if zs.length = 16 ∨ zs.length = 64 then (if within (-F) F zs then none else some 3) else some 14
theorem blkAns_none {zs : List Int} {F : Int} (h : blkAns zs F = none) : (zs.length = 16 ∨ zs.length = 64) ∧ within (-F) F zs := by
  unfold blkAns at h
  split at h
  · rename_i h1
    split at h
    · rename_i h2
      exact ⟨h1, h2⟩
    · cases h
  · cases h
/-- what Forward and Inverse answer -/
def WPost (w : World) (ans : Option Int) (out : List Int) (e : Ending) (w' : World) : Prop :=
  ∃ u x, e = .returned (.tuple #[u, x]) ∧ Ext w w' ∧ match ans with
    | none => w'.ownsRow w.heap.size 3 1 u out.length (out.map (Value.int .i64)) ∧ x = .nilIface
    | some k => u = .slice none 0 0 ∧ x = .iface 29 (.int .i64 k)

theorem forward_fit (zs : List Int) (v : Value) (w : World) (ha : Ints w v zs) (h1 : zs.length ≠ 16) (h2 : zs.length ≠ 64) (out : List Int) :
    Calls Tryd.prog 17 #[v] w (WPost w (some 14) out) := by
  obtain ⟨a, cap, rfl⟩ := ha.form
  go_enter Tryd.func17, Tryd.ntmps17
  go_wp2_with fail
  refine (side_fit zs.length _ _ _ ⟨a, cap, rfl⟩ h1 h2).mono ?_; rintro e w1 ⟨rfl, rfl⟩
  go_wp2
  go_ret2
  exact ⟨_, _, rfl, Ext.refl _, rfl, rfl⟩
theorem forward_range (zs : List Int) (v : Value) (w : World) (ha : Ints w v zs) (hn : zs.length = 16 ∨ zs.length = 64) (hw : ¬ within (-65536) 65536 zs) (out : List Int) :
    Calls Tryd.prog 17 #[v] w (WPost w (some 3) out) := by
  go_enter Tryd.func17, Tryd.ntmps17
  go_wp2_with fail
  refine (side_any zs zs.length 65536 (if zs.length = 16 then 4 else 8) _ _ ha rfl (by rcases hn with h | h <;> simp [h]) (by decide) (by decide) _ (by show _ = _; rw [if_neg hw])).mono ?_; rintro e w1 ⟨rfl, rfl⟩
  go_wp2
  go_ret2
  exact ⟨_, _, rfl, Ext.refl _, rfl, rfl⟩

set_option maxHeartbeats 1000000 in
set_option maxRecDepth 20000 in
theorem forward_ok (zs : List Int) (n N M : Nat) (v : Value) (w : World) (ha : Ints w v zs) (hN : N = zs.length) (hn : N = 16 ∧ n = 4 ∧ M = 4 ∨ N = 64 ∧ n = 8 ∧ M = 6) (hw : within (-65536) 65536 zs) (out : List Int) (hout : Hid (out = rowL N (wht M (fun i => zs.getD i 0)))) :
    Calls Tryd.prog 17 #[v] w (WPost w none out) := by
  have F1 : N ≤ 64 ∧ 1 ≤ N ∧ N = 2 ^ M ∧ n * n = N ∧ M ≤ 6 ∧ n ≤ 8 := by rcases hn with ⟨rfl, rfl, rfl⟩ | ⟨rfl, rfl, rfl⟩ <;> decide
  have HF := Lib.hid F1
  obtain ⟨a, cap, rfl⟩ := ha.form
  have side := fun W (h : Ints W (.slice a zs.length cap) zs) => side_any zs N 65536 (n : Int) _ W h hN (by rcases hn with ⟨h1, h2, _⟩ | ⟨h1, h2, _⟩ <;> subst h1 h2 <;> decide) (by decide) (by decide) _ (show Hid (_ = _) from (if_pos hw).symm)
  have cln := fun W (h : Ints W (.slice a zs.length cap) zs) => clone_ints zs _ W h (by omega) (by omega)
  rw [← hN] at ha side cln ⊢
  have HS := Lib.hid side
  have HC := Lib.hid cln
  have HN := Lib.hid hN
  have HW := Lib.hid hw
  clear side hw hn cln hN F1
  go_enter Tryd.func17, Tryd.ntmps17
  go_wp2_with fail
  refine (HS.out _ ha).mono ?_; rintro e w1 ⟨rfl, rfl⟩
  go_wp2_with fail
  refine (HC.out _ ha).mono ?_; rintro e w2 ⟨u, rfl, hown, hE⟩
  obtain ⟨f1, f2, f3, f4, f5, f6⟩ := HF.out
  obtain ⟨g, cap', rfl, hg, hgl, hc1, hc2, -, hH⟩ := Lib.holds_of_ownsRow (enc := Value.int .i64) hown (by
    rintro rfl
    rcases hown.2 with ⟨_, h0⟩ | ⟨_, _, _, h0, _⟩
    · omega
    · cases h0)
  rw [← rowL_getD zs, rowL_arr, ← HN.out] at hH
  have hbd := fun i => getD_bound HW.out (by decide) i
  have HT := Lib.hid (transform_any (fun i => zs.getD i 0) n N M g cap' w2 f3 f4 f5 f6 hH (fun i => by have := hbd i; omega))
  have ho := fun q => Lib.ownsRow_putRow (q := q) (k := N) hown (rowL_length N (wht M (fun i => zs.getD i 0))) (Nat.le_refl _)
  have HO := Lib.hid ho
  clear ho hbd hH f1 f2 f3 f4 f5 f6
  go_wp2_with fail
  refine HT.out.mono ?_; rintro e w3 ⟨rfl, q, hq⟩
  have HQ := Lib.hid hq
  clear hq
  go_wp2
  go_ret2
  have e1 : w3 = putRow (Value.int .i64) (Sort.ahead w2 q) g 0 (rowL N (wht M (fun i => zs.getD i 0))).toArray := by rw [HQ.out, rowL_arr]; rfl
  refine ⟨_, _, rfl, ?_, ?_, rfl⟩
  · rw [e1]
    exact Lib.below_putRow hE hg
  · have := HO.out q
    rw [← e1, List.take_of_length_le (by rw [rowL_length]; exact Nat.le_refl _)] at this
    rw [hout.out, rowL_length]
    exact this

theorem inverse_fit (zs : List Int) (v : Value) (w : World) (ha : Ints w v zs) (h1 : zs.length ≠ 16) (h2 : zs.length ≠ 64) (out : List Int) :
    Calls Tryd.prog 19 #[v] w (WPost w (some 14) out) := by
  obtain ⟨a, cap, rfl⟩ := ha.form
  go_enter Tryd.func19, Tryd.ntmps19
  go_wp2_with fail
  refine (side_fit zs.length _ _ _ ⟨a, cap, rfl⟩ h1 h2).mono ?_; rintro e w1 ⟨rfl, rfl⟩
  go_wp2
  go_ret2
  exact ⟨_, _, rfl, Ext.refl _, rfl, rfl⟩
theorem inverse_range (zs : List Int) (v : Value) (w : World) (ha : Ints w v zs) (hn : zs.length = 16 ∨ zs.length = 64) (hw : ¬ within (-16777216) 16777216 zs) (out : List Int) :
    Calls Tryd.prog 19 #[v] w (WPost w (some 3) out) := by
  go_enter Tryd.func19, Tryd.ntmps19
  go_wp2_with fail
  refine (side_any zs zs.length 16777216 (if zs.length = 16 then 4 else 8) _ _ ha rfl (by rcases hn with h | h <;> simp [h]) (by decide) (by decide) _ (by show _ = _; rw [if_neg hw])).mono ?_; rintro e w1 ⟨rfl, rfl⟩
  go_wp2
  go_ret2
  exact ⟨_, _, rfl, Ext.refl _, rfl, rfl⟩


theorem one_set {w : World} {blk N q k : Nat} {f : Nat → Int} {x : Int} (hk : k < N) :
    ((putRow (Value.int .i64) w blk 0 (rowA N f)).drewN q).setCell ⟨blk, k, none⟩ (.int .i64 x) = (putRow (Value.int .i64) w blk 0 (rowA N (fun i => if i = k then x else f i))).drewN q := by
  have e1 := putRow_set (Value.int .i64) w blk 0 (rowA N f) k x (by rw [rowA_size]; exact hk)
  rw [← rowA_set, ← e1]
  simp only [Nat.zero_add]
  rfl
/-- what comes back -/
def invF (M : Nat) (f : Nat → Int) (i : Nat) : Int := (wht M f i + 2 ^ M / 2) / 2 ^ M
def midF (k M : Nat) (f : Nat → Int) (j : Nat) : Int := if j < k then invF M f j else wht M f j

set_option maxRecDepth 100000 in
theorem len_four (w : World) : Calls Tryd.prog 49 #[.int .u64 3] w fun e w' => e = .returned (.int .i64 2) ∧ w' = w := by
  go_enter Tryd.func49, Tryd.ntmps49
  go_wp2
  go_ret
  exact ⟨by kernel_rfl, rfl⟩
set_option maxRecDepth 100000 in
theorem len_eight (w : World) : Calls Tryd.prog 49 #[.int .u64 7] w fun e w' => e = .returned (.int .i64 3) ∧ w' = w := by
  go_enter Tryd.func49, Tryd.ntmps49
  go_wp2
  go_ret
  exact ⟨by kernel_rfl, rfl⟩

set_option maxHeartbeats 1000000 in
set_option maxRecDepth 20000 in
theorem inverse_ok (zs : List Int) (n N M : Nat) (v : Value) (w : World) (ha : Ints w v zs) (hN : N = zs.length) (hn : N = 16 ∧ n = 4 ∧ M = 4 ∨ N = 64 ∧ n = 8 ∧ M = 6) (hw : within (-16777216) 16777216 zs) (out : List Int) (hout : Hid (out = rowL N (invF M (fun i => zs.getD i 0)))) :
    Calls Tryd.prog 19 #[v] w (WPost w none out) := by
  have F1 : N ≤ 64 ∧ 1 ≤ N ∧ N = 2 ^ M ∧ n * n = N ∧ M ≤ 6 ∧ n ≤ 8 := by rcases hn with ⟨rfl, rfl, rfl⟩ | ⟨rfl, rfl, rfl⟩ <;> decide
  have HF := Lib.hid F1
  obtain ⟨a, cap, rfl⟩ := ha.form
  have side := fun W (h : Ints W (.slice a zs.length cap) zs) => side_any zs N 16777216 (n : Int) _ W h hN (by rcases hn with ⟨h1, h2, _⟩ | ⟨h1, h2, _⟩ <;> subst h1 h2 <;> decide) (by decide) (by decide) _ (show Hid (_ = _) from (if_pos hw).symm)
  have cln := fun W (h : Ints W (.slice a zs.length cap) zs) => clone_ints zs _ W h (by omega) (by omega)
  rw [← hN] at ha side cln ⊢
  have HS := Lib.hid side
  have HC := Lib.hid cln
  have HN := Lib.hid hN
  have HW := Lib.hid hw
  obtain ⟨L, hL, HL⟩ : ∃ L : Int, 2 * L = M ∧ Hid (∀ W, Calls Tryd.prog 49 #[.int .u64 ((n : Int) - 1)] W fun e w' => e = .returned (.int .i64 L) ∧ w' = W) := by
    rcases hn with ⟨_, rfl, rfl⟩ | ⟨_, rfl, rfl⟩
    · exact ⟨2, rfl, fun W => len_four W⟩
    · exact ⟨3, rfl, fun W => len_eight W⟩
  have hn1 : 1 ≤ n := by omega
  have hn8 : n ≤ 8 := by omega
  have hM6 : M ≤ 6 := by omega
  have hN64 : N ≤ 64 := by omega
  have hnn : (n : Int) * n ≤ 64 ∧ 0 ≤ (n : Int) * n := by rcases hn with ⟨_, rfl, rfl⟩ | ⟨_, rfl, rfl⟩ <;> decide
  obtain ⟨H, hdiv, hH0, hH1, HH2⟩ : ∃ H : Int, Int.tdiv ((n : Int) * n) 2 = H ∧ 0 ≤ H ∧ H ≤ 32 ∧ Hid (H = 2 ^ M / 2) := by
    rcases hn with ⟨_, rfl, rfl⟩ | ⟨_, rfl, rfl⟩
    · exact ⟨8, rfl, by decide, by decide, rfl⟩
    · exact ⟨32, rfl, by decide, by decide, rfl⟩
  clear side hw cln hN F1 hn
  go_enter Tryd.func19, Tryd.ntmps19
  go_wp2_with fail
  refine (HS.out _ ha).mono ?_; rintro e w1 ⟨rfl, rfl⟩
  go_wp2_with fail
  refine (HC.out _ ha).mono ?_; rintro e w2 ⟨u, rfl, hown, hE⟩
  obtain ⟨f1, f2, f3, f4, f5, f6⟩ := HF.out
  obtain ⟨g, cap', rfl, hg, hgl, hc1, hc2, -, hH⟩ := Lib.holds_of_ownsRow (enc := Value.int .i64) hown (by
    rintro rfl
    rcases hown.2 with ⟨_, h0⟩ | ⟨_, _, _, h0, _⟩
    · omega
    · cases h0)
  rw [← rowL_getD zs, rowL_arr, ← HN.out] at hH
  have hbd := fun i => getD_bound HW.out (by decide) i
  have HT := Lib.hid (transform_any (fun i => zs.getD i 0) n N M g cap' w2 f3 f4 f5 f6 hH (fun i => by have := hbd i; omega))
  have ho := fun q => Lib.ownsRow_putRow (q := q) (k := N) hown (rowL_length N (invF M (fun i => zs.getD i 0))) (Nat.le_refl _)
  have HO := Lib.hid ho
  obtain ⟨f, hf⟩ : ∃ f : Nat → Int, f = fun i => zs.getD i 0 := ⟨_, rfl⟩
  have HB : Hid (∀ i, -1073741824 ≤ wht M f i ∧ wht M f i ≤ 1073741824) := by
    intro i
    rw [hf]
    exact wht_small (B := 2 ^ M) rfl (by rw [show (2 : Int) ^ M = N by rw [f3]; push_cast; rfl]; omega) (fun i => by have := hbd i; omega) i
  rw [← hf] at HT HO
  have hH0 := hH
  rw [← hf] at hH0
  have HH := Lib.hid hH0
  rw [← hf] at hout
  clear ho hbd hH hH0 f3 f4 f5 f6
  go_wp2_with fail
  refine HT.out.mono ?_; rintro e w3 ⟨rfl, q, hq⟩
  have HQ := Lib.hid hq
  clear hq HT
  go_wp2_with fail
  refine (HL.out _).mono ?_; rintro e w4 ⟨rfl, rfl⟩
  go_wp2
  go_loopw [29] (fun iv wr => ∃ k : Nat, k ≤ N ∧ iv = .int .i64 k ∧ Hid (wr = (putRow (Value.int .i64) w2 g 0 (rowA N (midF k M f))).drewN q)) (fun iv _ => N - (intOf iv).toNat)
  case atStart => exact ⟨0, Nat.zero_le _, rfl, by
    show _ = _
    rw [HQ.out]
    congr 2⟩
  case round =>
    obtain ⟨k, hk, rfl, HW'⟩ := hrel
    by_cases hkN : k < N
    · obtain ⟨x, hx⟩ : ∃ x, wht M f k = x := ⟨_, rfl⟩
      have hK := holds_putRow _ _ _ _ _ (rowA N (midF k M f)) HH.out (by rw [rowA_size, rowA_size])
      obtain ⟨ck, fk⟩ := hK k (by rw [rowA_size]; exact hkN)
      have s1 : midF k M f k = x := by unfold midF; rw [if_neg (Nat.lt_irrefl _)]; exact hx
      rw [rowA_get hkN, s1] at ck
      have ck' : wr.cell? ⟨g, k, none⟩ = some (.int .i64 x) := by rw [HW'.out]; simpa using ck
      have fk' : wr.frozen? ⟨g, k, none⟩ = false := by rw [HW'.out]; simpa using fk
      have bx : -1073741824 ≤ x ∧ x ≤ 1073741824 := by rw [← hx]; exact HB.out k
      have HX := Lib.hid hx
      clear hx hK s1 ck fk
      go_wp2
      go_roundw
      case rel =>
        refine ⟨k + 1, by omega, by go_num, ?_⟩
        show _ = _
        rw [HW'.out, one_set hkN]
        congr 2
        apply rowA_congr
        intro i _
        unfold midF
        by_cases hik : i = k
        · subst hik
          rw [if_pos rfl, if_pos (by omega)]
          unfold invF
          rw [HX.out, HH2.out]
        · rw [if_neg hik]
          by_cases h2 : i < k
          · rw [if_pos h2, if_pos (by omega)]
          · rw [if_neg h2, if_neg (by omega)]
      case measure => simp [intOf]; omega
    · have hkk : k = N := by omega
      go_wp2
      go_ret2
      have e1 : wr = putRow (Value.int .i64) (Sort.ahead w2 q) g 0 (rowL N (invF M f)).toArray := by
        rw [HW'.out, rowL_arr, rowA_congr (g := invF M f) (fun j hj => by unfold midF; rw [if_pos (by omega)])]
        rfl
      refine ⟨_, _, rfl, ?_, ?_, rfl⟩
      · rw [e1]
        exact Lib.below_putRow hE hg
      · have := HO.out q
        rw [← e1, List.take_of_length_le (by rw [rowL_length]; exact Nat.le_refl _)] at this
        rw [hout.out, rowL_length]
        exact this
end Go.Proofs.YtbmknmenaaanaaaDoor
