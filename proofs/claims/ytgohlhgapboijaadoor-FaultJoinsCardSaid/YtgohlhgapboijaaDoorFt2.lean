/- api.Code.Error: what a code says. -/
import Derived.Test.YtgohlhgapboijaaDoorFt1
import Derived.Deep.LoopGhost
import Derived.Lib.Hide
import Derived.Lib.ItoaNum
import Derived.Laws.BytesArg
namespace Go.Proofs.YtgohlhgapboijaaDoor
set_option linter.unusedVariables false
set_option linter.unusedSimpArgs false
open Go.RowKit Go.Extern.Stop Go.Stop Go.Extern

theorem conv_one (W : World) (z : Int) : (convert 59 9 (.slice (some ⟨W.heap.size, 0, none⟩) 1 1)).run Tryd.prog (W.alloc (.cells #[.int .u8 z] 5)) = .ok (.string (strOfNums [z])) (W.alloc (.cells #[.int .u8 z] 5)) :=
  run_convert_bytes_arg _ 59 5 Tryd.underlying59 Tryd.underlying5 W.heap.size 0 1 1 [z] rfl (fun i hi => by
    obtain rfl : i = 0 := by omega
    simp) 9 Tryd.underlying9
theorem one_data (z : Int) : (strOfNums [z]).data.toList = [UInt8.ofNat z.toNat] := by unfold strOfNums; simp
def codeT (c : Int) : List UInt8 := if c < 0 then [99, 111, 100, 101, 32, 98, 101, 108, 111, 119, 32, 48] else [99, 111, 100, 101, 32] ++ Lib.decDigits c.toNat
set_option maxHeartbeats 2000000 in
set_option maxRecDepth 100000 in
theorem cerr_any (c : Int) (w : World) (hc : -9223372036854775808 ≤ c ∧ c ≤ 9223372036854775807) :
    Calls Tryd.prog 39 #[.int .i64 c] w fun e w' => ∃ s : ByteArray, e = .returned (.string s) ∧ s.data.toList = codeT c ∧ Ext w w' := by
  by_cases h0 : c < 0
  · go_enter Tryd.func39, Tryd.ntmps39
    go_wp2
    go_ret
    exact ⟨_, rfl, by unfold codeT; rw [if_pos h0], Ext.refl w⟩
  obtain ⟨u, rfl⟩ := Int.eq_ofNat_of_zero_le (show 0 ≤ c by omega)
  have hu : u ≤ 9223372036854775807 := by omega
  clear hc
  go_enter Tryd.func39, Tryd.ntmps39
  go_wp2
  go_loopw [3, 4] (fun nv sv wr => ∃ (k : Nat) (s : ByteArray), nv = .int .i64 (k : Int) ∧ sv = .string s ∧ k ≤ u ∧ Hid (Lib.decDigits u = Lib.decDigits k ++ s.data.toList) ∧ Hid (Ext w wr)) (fun nv _ _ => (intOf nv).toNat)
  case atStart => exact ⟨u, _, rfl, rfl, Nat.le_refl _, by show _ = _; simp, Ext.refl w⟩
  case round =>
    obtain ⟨k, s, rfl, rfl, hk, HD, HE⟩ := hrel
    have hlen := Lib.itoa_length_le (u : Int) (by omega) (by omega)
    have hit : Lib.itoa (u : Int) = Lib.decDigits u := by unfold Lib.itoa; rw [if_neg (by omega)]; rfl
    have hsl : s.size ≤ 21 := by
      rw [hit, HD.out, List.length_append] at hlen
      have : s.size = s.data.toList.length := by rw [Array.length_toList]; rfl
      omega
    clear hlen hit
    by_cases h9 : 9 < k
    · have h9' : (9 : Int) < (k : Int) := by omega
      have r1 : (k : Int).tmod 10 = ((k % 10 : Nat) : Int) := by rw [Int.tmod_eq_emod_of_nonneg (by omega)]; omega
      have r2 : (k : Int).tdiv 10 = ((k / 10 : Nat) : Int) := by rw [Int.tdiv_eq_ediv_of_nonneg (by omega)]; omega
      have HDS : Hid (Lib.decDigits u = Lib.decDigits (k / 10) ++ (strOfNums [48 + (k : Int) % 10] ++ s).data.toList) := by
        show _ = _
        rw [HD.out, ByteArray.data_append, Array.toList_append, one_data]
        conv => lhs; rw [Lib.decDigits]
        rw [dif_neg (by omega), List.append_assoc]
        congr 3
      have hsz : ¬ 9223372036854775807 < (strOfNums [48 + (k : Int) % 10]).size + s.size := by rw [strOfNums_size]; simp only [List.length_cons, List.length_nil]; omega
      go_wp2_with fail
      rw [conv_one]
      simp only [Result.andThen]
      rw [Oper.upon_value]
      go_wp2_with fail
      exact ⟨⟨k / 10, _, by simp, rfl, by omega, HDS, HE.out.alloc _⟩, by simp [intOf]; omega⟩
    · have h9' : ¬ (9 : Int) < (k : Int) := by omega
      have hs1 : (strOfNums [48 + (k : Int)]).size = 1 := by rw [strOfNums_size]; rfl
      have hsz : ¬ 9223372036854775807 < 5 + (strOfNums [48 + (k : Int)]).size := by omega
      have hsy : ¬ 9223372036854775807 < 5 + (strOfNums [48 + (k : Int)]).size + s.size := by omega
      have HDS : Hid (((⟨#[99, 111, 100, 101, 32]⟩ : ByteArray) ++ strOfNums [48 + (k : Int)] ++ s).data.toList = codeT (u : Int)) := by
        show _ = _
        unfold codeT
        rw [if_neg (by omega), show (u : Int).toNat = u from rfl, HD.out, ByteArray.data_append, ByteArray.data_append, Array.toList_append, Array.toList_append, one_data]
        rw [show Lib.decDigits k = [UInt8.ofNat (48 + k)] by rw [Lib.decDigits, dif_pos (by omega)]]
        rw [List.append_assoc]
        congr 3
      go_wp2_with fail
      rw [conv_one]
      simp only [Result.andThen]
      rw [Oper.upon_value]
      go_wp2_with fail
      go_ret
      exact ⟨_, rfl, HDS.out, HE.out.alloc _⟩
end Go.Proofs.YtgohlhgapboijaaDoor
