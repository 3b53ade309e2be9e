/- kinlaw1.digits: a number's decimal digits. -/
import Derived.Test.YtgohlhgapboijaaDoorF2
namespace Go.Proofs.YtgohlhgapboijaaDoor
set_option linter.unusedVariables false
set_option linter.unusedSimpArgs false
open Go.RowKit Go.Extern.Stop Go.Stop Go.Extern

theorem conv_at (g : Nat) (z : Int) (W : World) (h : W.cell? ⟨g, 0, none⟩ = some (.int .u8 z)) : (convert 59 9 (.slice (some ⟨g, 0, none⟩) 1 1)).run Tryd.prog W = .ok (.string (strOfNums [z])) W :=
  run_convert_bytes_arg _ 59 5 Tryd.underlying59 Tryd.underlying5 g 0 1 1 [z] rfl (fun i hi => by
    obtain rfl : i = 0 := by omega
    simpa using h) 9 Tryd.underlying9
theorem ext_new1 {W w2 : World} {v : Value} {t : TypeId} (h : Ext ((W.alloc (.cells #[v] t)).drew) w2) : w2.cell? ⟨W.heap.size, 0, none⟩ = some v := h.cell (by simp)
theorem new_cell (W : World) (v : Value) (t : TypeId) : (W.alloc (.cells #[v] t)).cell? ⟨W.heap.size, 0, none⟩ = some v := by simp
theorem ext_new2 {W w2 : World} {v : Value} {t : TypeId} (h : Ext (W.drew.alloc (.cells #[v] t)) w2) : w2.cell? ⟨W.heap.size, 0, none⟩ = some v := h.cell (new_cell W.drew v t)
theorem conv_new (g : Nat) (z : Int) (W : World) (hg : g = W.heap.size) : (convert 59 9 (.slice (some ⟨g, 0, none⟩) 1 1)).run Tryd.prog (W.alloc (.cells #[.int .u8 z] 5)) = .ok (.string (strOfNums [z])) (W.alloc (.cells #[.int .u8 z] 5)) := by subst hg; exact conv_one W z
theorem dsz {U : Nat} {s : ByteArray} (hs : s.data.toList = Lib.decDigits U) (h : U ≤ 9223372036854775807) (z : Int) : ¬ 9223372036854775807 < s.size + (strOfNums [z]).size := by
  have h1 := Lib.itoa_length_le (U : Int) (by omega) (by omega)
  have h2 : Lib.itoa (U : Int) = Lib.decDigits U := by unfold Lib.itoa; rw [if_neg (by omega)]; rfl
  rw [h2, ← hs] at h1
  have h3 : s.size = s.data.toList.length := by rw [Array.length_toList]; rfl
  rw [strOfNums_size]
  simp only [List.length_cons, List.length_nil]
  omega
set_option maxHeartbeats 4000000 in
set_option maxRecDepth 100000 in
theorem digits_nat (u : Nat) (w : World) (hu : u ≤ 9223372036854775807) :
    Calls Tryd.prog 41 #[.int .i64 (u : Int)] w fun e w' => ∃ s : ByteArray, e = .returned (.string s) ∧ s.data.toList = Lib.decDigits u ∧ Ext w w' := by
  induction u using Nat.strongRecOn generalizing w with
  | ind u ih =>
    have x0 : ¬ (u : Int) < 0 := by omega
    by_cases h9 : u < 10
    · have x1 : (u : Int) < 10 := by omega
      have HD : Hid (Lib.decDigits u = [UInt8.ofNat (48 + u)]) := by show _ = _; rw [Lib.decDigits, dif_pos h9]
      clear ih
      go_enter Tryd.func41, Tryd.ntmps41
      go_wp2_with fail
      rw [conv_one]
      simp only [Result.andThen]
      rw [Oper.upon_value]
      go_wp2_with fail
      go_ret
      refine ⟨_, rfl, ?_, (Ext.refl w).alloc _⟩
      rw [one_data, HD.out]
      congr 2
    · have x1 : ¬ (u : Int) < 10 := by omega
      have UI := Lib.hid (fun W => ih (u / 10) (by omega) W (by omega))
      have r1 : (u : Int).tdiv 10 = ((u / 10 : Nat) : Int) := by rw [Int.tdiv_eq_ediv_of_nonneg (by omega)]; omega
      have r2 : (u : Int).tmod 10 = ((u % 10 : Nat) : Int) := by rw [Int.tmod_eq_emod_of_nonneg (by omega)]; omega
      obtain ⟨U, hU⟩ : ∃ U, u / 10 = U := ⟨_, rfl⟩
      obtain ⟨R, hR⟩ : ∃ R, u % 10 = R := ⟨_, rfl⟩
      have hR9 : R < 10 := by omega
      have hU9 : U ≤ 922337203685477580 := by omega
      rw [hU] at UI r1
      rw [hR] at r2
      have r3 : (u : Int) / 10 = (U : Int) := by omega
      have r4 : IntKind.i64.wrap (U : Int) = (U : Int) := by rw [IntKind.wrap_i64]; omega
      have r5 : (u : Int) % 10 = (R : Int) := by omega
      have r6 : IntKind.u8.wrap (48 + (R : Int)) = 48 + (R : Int) := by rw [IntKind.wrap_u8]; omega
      have r7 : IntKind.i64.wrap (48 + (R : Int)) = 48 + (R : Int) := by rw [IntKind.wrap_i64]; omega
      have r8 : IntKind.i64.wrap (R : Int) = (R : Int) := by rw [IntKind.wrap_i64]; omega
      have HDS : Hid (∀ s2 : ByteArray, s2.data.toList = Lib.decDigits U → (s2 ++ strOfNums [48 + (R : Int)]).data.toList = Lib.decDigits u) := fun s2 h => by
        rw [ByteArray.data_append, Array.toList_append, one_data, h]
        conv => rhs; rw [Lib.decDigits]
        rw [dif_neg h9, hU, hR]
        congr 2
      clear ih
      go_enter Tryd.func41, Tryd.ntmps41
      go_wp2_with fail
      have cv := conv_new
      have cvd := conv_at w.heap.size (48 + (R : Int)) ((w.alloc (.cells #[.int .u8 (48 + (R : Int))] 5)).drew) (by simp)
      go_region_law (first
        | (go_simp; go_at_call 41; (with_reducible refine (UI.out _).mono ?_); rintro e w2 ⟨s2, rfl, hs2, x2⟩; have hz2 := dsz hs2 (Nat.le_trans hU9 (by decide)) (48 + (R : Int)); have HS2 := Lib.hid hs2; have X2 := Lib.hid x2; (first | (have cv2 := conv_at w.heap.size (48 + (R : Int)) w2 (ext_new1 x2)) | (have cv2 := conv_at w.heap.size (48 + (R : Int)) w2 (ext_new2 x2)) | skip); clear hs2 x2))
      all_goals go_wp2_with fail
      all_goals go_ret
      all_goals
        refine ⟨_, rfl, HDS.out _ HS2.out, ?_⟩
        first
          | exact ((Ext.refl w).drew.trans X2.out).alloc _
          | exact (((Ext.refl w).alloc _).drew).trans X2.out
          | exact ((Ext.refl w).drew.alloc _).trans X2.out
set_option maxHeartbeats 4000000 in
set_option maxRecDepth 100000 in
theorem digits_neg (u : Nat) (w : World) (h1 : 1 ≤ u) (hu : u ≤ 9223372036854775808) :
    Calls Tryd.prog 41 #[.int .i64 (-(u : Int))] w fun e w' => ∃ s : ByteArray, e = .returned (.string s) ∧ s.data.toList = 45 :: Lib.decDigits u ∧ Ext w w' := by
  obtain ⟨N, hN⟩ : ∃ N : Int, N = -(u : Int) := ⟨_, rfl⟩
  obtain ⟨U, hU⟩ : ∃ U, u / 10 = U := ⟨_, rfl⟩
  obtain ⟨R, hR⟩ : ∃ R, u % 10 = R := ⟨_, rfl⟩
  have hR9 : R < 10 := by omega
  have hU9 : U ≤ 922337203685477580 := by omega
  have x0 : N < 0 := by omega
  have r1 : N.tdiv 10 = -(U : Int) := by rw [hN, Int.neg_tdiv, Int.tdiv_eq_ediv_of_nonneg (by omega)]; omega
  have r2 : N.tmod 10 = -(R : Int) := by rw [hN, Int.neg_tmod, Int.tmod_eq_emod_of_nonneg (by omega)]; omega
  have r3 : IntKind.i64.wrap (-(U : Int)) = -(U : Int) := by rw [IntKind.wrap_i64]; omega
  have r4 : IntKind.i64.wrap (U : Int) = (U : Int) := by rw [IntKind.wrap_i64]; omega
  have r5 : IntKind.i64.wrap (-(R : Int)) = -(R : Int) := by rw [IntKind.wrap_i64]; omega
  have r6 : IntKind.u8.wrap (48 + (R : Int)) = 48 + (R : Int) := by rw [IntKind.wrap_u8]; omega
  have r7 : IntKind.i64.wrap (48 + (R : Int)) = 48 + (R : Int) := by rw [IntKind.wrap_i64]; omega
  have r8 : (48 : Int) - -(R : Int) = 48 + (R : Int) := by omega
  rw [← hN]
  have HN := Lib.hid hN
  by_cases h9 : U = 0
  · subst h9
    have HDS : Hid (((⟨#[45]⟩ : ByteArray) ++ ⟨#[]⟩ ++ strOfNums [48 + (R : Int)]).data.toList = 45 :: Lib.decDigits u) := by
      show _ = _
      rw [ByteArray.data_append, Array.toList_append, ByteArray.data_append, Array.toList_append, one_data, Lib.decDigits, dif_pos (by omega)]
      rw [show R = u by omega]
      rfl
    clear hN hU hR
    go_enter Tryd.func41, Tryd.ntmps41
    go_wp2_with fail
    rw [conv_one]
    simp only [Result.andThen]
    rw [Oper.upon_value]
    have hsz : ¬ 9223372036854775807 < (({ data := #[45] } : ByteArray) ++ { data := #[] }).size + (strOfNums [48 + (R : Int)]).size := by
      rw [strOfNums_size]
      show ¬ 9223372036854775807 < 1 + 1
      decide
    go_wp2_with fail
    go_ret
    exact ⟨_, rfl, HDS.out, (Ext.refl w).alloc _⟩
  · have HDS : Hid (∀ s2 : ByteArray, s2.data.toList = Lib.decDigits U → ((⟨#[45]⟩ : ByteArray) ++ s2 ++ strOfNums [48 + (R : Int)]).data.toList = 45 :: Lib.decDigits u) := fun s2 h => by
      rw [ByteArray.data_append, Array.toList_append, ByteArray.data_append, Array.toList_append, one_data, h]
      conv => rhs; rw [Lib.decDigits]
      rw [dif_neg (by omega), hU, hR]
      rfl
    have x1 : (-(U : Int) != 0) = true := by simp; omega
    have x2 : ((U : Int) != 0) = true := by simp; omega
    have x3 : - -(U : Int) = (U : Int) := by omega
    clear hN hU hR h9
    go_enter Tryd.func41, Tryd.ntmps41
    go_wp2_with fail
    refine (digits_nat U _ (by omega)).mono ?_; rintro e w2 ⟨s2, rfl, hs2, X2⟩
    have HX2 := Lib.hid X2
    have HS2 := Lib.hid hs2
    have hz2 := dsz hs2 (Nat.le_trans hU9 (by decide)) (48 + (R : Int))
    have hl2 : s2.size ≤ 21 := by
      have h1 := Lib.itoa_length_le (U : Int) (by omega) (by omega)
      have h2 : Lib.itoa (U : Int) = Lib.decDigits U := by unfold Lib.itoa; rw [if_neg (by omega)]; rfl
      rw [h2, ← hs2] at h1
      have h3 : s2.size = s2.data.toList.length := by rw [Array.length_toList]; rfl
      omega
    have hszA : ¬ 9223372036854775807 < 1 + s2.size := by omega
    have hszB : ¬ 9223372036854775807 < (({ data := #[45] } : ByteArray) ++ s2).size + (strOfNums [48 + (R : Int)]).size := by
      rw [strOfNums_size, ByteArray.size_append]
      show ¬ _ < 1 + s2.size + 1
      omega
    have hszC : ¬ 9223372036854775807 < 1 + s2.size + (strOfNums [48 + (R : Int)]).size := by
      rw [strOfNums_size]
      show ¬ _ < 1 + s2.size + 1
      omega
    clear X2 hs2
    go_wp2_with fail
    rw [conv_one]
    simp only [Result.andThen]
    rw [Oper.upon_value]
    go_wp2_with fail
    go_ret
    exact ⟨_, rfl, HDS.out _ HS2.out, HX2.out.alloc _⟩
theorem digits_any (n : Int) (w : World) (hn : -9223372036854775808 ≤ n ∧ n ≤ 9223372036854775807) :
    Calls Tryd.prog 41 #[.int .i64 n] w fun e w' => ∃ s : ByteArray, e = .returned (.string s) ∧ s.data.toList = Lib.itoa n ∧ Ext w w' := by
  by_cases h : n < 0
  · obtain ⟨u, rfl⟩ : ∃ u : Nat, n = -(u : Int) := ⟨n.natAbs, by omega⟩
    have e : Lib.itoa (-(u : Int)) = 45 :: Lib.decDigits u := by unfold Lib.itoa; rw [if_pos h]; simp
    rw [e]
    exact digits_neg u w (by omega) (by omega)
  · obtain ⟨u, rfl⟩ : ∃ u : Nat, n = (u : Int) := ⟨n.toNat, by omega⟩
    have e : Lib.itoa (u : Int) = Lib.decDigits u := by unfold Lib.itoa; rw [if_neg h]; rfl
    rw [e]
    exact digits_nat u w (by omega)
end Go.Proofs.YtgohlhgapboijaaDoor
