/- kinref4.Value, kinref4.Next: contracts over this seat's translation. -/
import Derived.Test.YtkjllhphpkmaiaaDoorUl1
namespace Go.Proofs.YtkjllhphpkmaiaaDoor
set_option linter.unusedVariables false
set_option linter.unusedSimpArgs false
open Go.RowKit Go.Extern.Stop Go.Stop Go.Extern

theorem val_take {bs : List Nat} {i x : Nat} (h : bs[i]? = some x) : val (bs.take (i + 1)) = val (bs.take i) * 256 + x := by
  unfold val
  rw [List.take_add_one, h, List.foldl_append]
  rfl
theorem val_lt : ∀ (n : Nat) {bs : List Nat}, bs.length ≤ n → (∀ x ∈ bs, x < 256) → val bs < 256 ^ n
  | 0, bs, h, _ => by
    obtain rfl : bs = [] := List.eq_nil_of_length_eq_zero (by omega)
    decide
  | n + 1, bs, h, hb => by
    by_cases he : bs.length ≤ n
    · have := val_lt n he hb
      have h2 : 256 ^ n ≤ 256 ^ (n + 1) := Nat.pow_le_pow_right (by decide) (by omega)
      omega
    · obtain ⟨x, hx⟩ : ∃ x, bs[n]? = some x := ⟨bs[n], List.getElem?_eq_getElem (by omega)⟩
      have ht := val_take hx
      rw [List.take_of_length_le (by omega)] at ht
      have h1 := val_lt n (bs := bs.take n) (by rw [List.length_take]; omega) (fun y hy => hb y (List.mem_of_mem_take hy))
      have hxb := hb x (List.mem_of_getElem? hx)
      rw [ht, Nat.pow_succ]
      omega
set_option maxHeartbeats 4000000 in
set_option maxRecDepth 20000 in
theorem value_any (bs : List Nat) (v : Value) (w : World) (h : Bys w v bs) (hl : bs.length ≤ 4) : Calls Tryd.prog 36 #[v] w fun e w' => e = .returned (.int .i64 (val bs : Int)) ∧ w = w' := by
  obtain ⟨a, cap, rfl⟩ := h.form
  obtain ⟨n, hn'⟩ : ∃ n, n = bs.length := ⟨_, rfl⟩
  rw [← hn'] at h hl ⊢
  have HN := Lib.hid hn'
  have HB := Lib.hid h
  clear hn' h
  go_enter Tryd.func36, Tryd.ntmps36
  go_wp2_with fail
  go_loop [3, 4] (fun sv iv => ∃ i : Nat, i ≤ n ∧ sv = .int .i64 (val (bs.take i) : Int) ∧ iv = .int .i64 (i : Int)) (fun _ iv => n - (intOf iv).toNat)
  case atStart => exact ⟨0, Nat.zero_le _, rfl, rfl⟩
  case round =>
    obtain ⟨i, hi, rfl, rfl⟩ := hrel
    by_cases hlt : i < n
    · obtain ⟨g, off, rfl⟩ := HB.out.had (by omega)
      have hx := nget_of_lt (bs := bs) (j := i) (by rw [← HN.out]; exact hlt)
      have cx := HB.out.at hx
      have hxb := HB.out.lt i
      have HS := Lib.hid (val_take hx)
      have hv3 := val_lt 3 (bs := bs.take i) (by rw [List.length_take]; omega) (fun y hy => HB.out.2.1 y (List.mem_of_mem_take hy))
      obtain ⟨x, hxx⟩ : ∃ x, bs.getD i 0 = x := ⟨_, rfl⟩
      obtain ⟨q, hq⟩ : ∃ q, val (bs.take i) = q := ⟨_, rfl⟩
      rw [hxx] at cx hxb HS
      rw [hq] at HS hv3 ⊢
      have hq3 : q < 16777216 := hv3
      obtain ⟨y, hy⟩ : ∃ y, q * 256 + x = y := ⟨_, rfl⟩
      rw [hy] at HS
      have m1 : IntKind.i64.wrap (x : Int) = (x : Int) := by rw [IntKind.wrap_i64]; omega
      have m2 : IntKind.i64.wrap ((q : Int) * 256 + (x : Int)) = (y : Int) := by rw [IntKind.wrap_i64]; omega
      have m3 : IntKind.i64.wrap ((q : Int) * 256) = (q : Int) * 256 := by rw [IntKind.wrap_i64]; omega
      have x1 : (0 : Int) ≤ (i : Int) := by omega
      have x2 : (i : Int) < (n : Int) := by omega
      clear hx hxx hq hv3 hy
      go_wp2
      go_roundw
      case rel => exact ⟨i + 1, by omega, by rw [HS.out], by go_num⟩
      case measure => simp [intOf]; omega
    · obtain rfl : i = n := by omega
      have ht : bs.take i = bs := List.take_of_length_le (by rw [← HN.out]; exact Nat.le_refl _)
      rw [ht]
      clear ht
      go_wp2
      go_ret
      exact ⟨rfl, rfl⟩
end Go.Proofs.YtkjllhphpkmaiaaDoor
