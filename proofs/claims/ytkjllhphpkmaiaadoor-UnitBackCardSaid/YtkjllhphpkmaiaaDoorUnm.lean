/- kinref4.Number: its contract over this seat's translation. -/
import Derived.Test.YtkjllhphpkmaiaaDoorUl1
namespace Go.Proofs.YtkjllhphpkmaiaaDoor
set_option linter.unusedVariables false
set_option linter.unusedSimpArgs false
open Go.RowKit Go.Extern.Stop Go.Stop Go.Extern

def dg : Nat → Nat → List Nat
  | _, 0 => []
  | v, m + 1 => dg (v / 256) m ++ [v % 256]
theorem dg_len (v m : Nat) : (dg v m).length = m := by
  induction m generalizing v with
  | zero => rfl
  | succ m ih => simp [dg, ih]
theorem dg_lt (v m : Nat) : ∀ x ∈ dg v m, x < 256 := by
  induction m generalizing v with
  | zero => intro x hx; cases hx
  | succ m ih =>
    intro x hx
    simp only [dg, List.mem_append, List.mem_singleton] at hx
    rcases hx with hx | rfl
    · exact ih _ x hx
    · omega
theorem dg3 {n : Nat} (h : n < 16777216) : dg n 3 = be3 n := by
  show [n / 256 / 256 % 256, n / 256 % 256, n % 256] = [n / 65536, n / 256 % 256, n % 256]
  congr 1
  omega
theorem dg4 {s : Nat} (h : s < 4294967296) : dg s 4 = be4 s := by
  show [s / 256 / 256 / 256 % 256, s / 256 / 256 % 256, s / 256 % 256, s % 256] = [s / 16777216, s / 65536 % 256, s / 256 % 256, s % 256]
  congr 1
  · omega
  · congr 1
    omega
theorem rep_set2 (r : Nat) (T : List Nat) (y : Nat) : (List.replicate (r + 1) 0 ++ T).set r y = List.replicate r 0 ++ y :: T := by
  rw [List.replicate_succ', List.append_assoc, List.set_append, if_neg (by simp), List.length_replicate, Nat.sub_self]
  rfl
set_option maxHeartbeats 4000000 in
set_option maxRecDepth 20000 in
theorem number_any (v n : Nat) (w : World) (hv : v ≤ 4294967296) (hn : 0 < n ∧ n ≤ 8) : Calls Tryd.prog 31 #[.int .i64 (v : Int), .int .i64 (n : Int)] w fun e w' => ∃ u, e = .returned u ∧ Bys w' u (dg v n) ∧ Plain u ∧ Ext w w' := by
  obtain ⟨i0, hi, hz0, hz1, hz2⟩ := info_parts infoU8
  have m1 : IntKind.i64.wrap ((n : Int) - 1) = (n : Int) - 1 := by rw [IntKind.wrap_i64]; omega
  go_enter Tryd.func31, Tryd.ntmps31
  go_wp2_with (at_make; refine wpList_make_full _ rfl _ _ 22 rfl w.heap.size 5 i0 (.int .u8 0) 1 Tryd.underlying22 hi hz0 hz1 .i64 .i64 _ _ n rfl rfl rfl rfl (by rw [hz2]; omega) (by unfold maxLen; omega) (Nat.le_refl _) ?_; intro w2 hown hgrow)
  have HW0 : Hid (Wr w2 w.heap.size n n (List.replicate n 0 ++ [])) := by
    have h0 : w2.ownsRow w.heap.size 5 1 (.slice (some ⟨w.heap.size, 0, none⟩) n n) n (byC (zeroB n)) := by rw [← made_zero]; exact hown
    obtain ⟨g, c, e, hgb, hfr⟩ := own_parts h0 hn.1
    simp only [Value.slice.injEq, Option.some.injEq, Addr.mk.injEq, and_true, true_and] at e
    obtain ⟨e1, e2⟩ := e
    refine ⟨?_, fun j => by rw [e1]; exact hfr j⟩
    have := Bys.of_owns h0 (fun z hz => by rw [List.eq_of_mem_replicate hz]; decide) (by unfold zeroB; rw [List.length_replicate]; omega)
    rw [List.append_nil]
    exact this
  have HX2 := Lib.hid (Below.grown (Ext.refl w) hgrow (Nat.le_refl _) (fun k hk => by cases hk))
  clear hown hgrow
  go_loopw [0, 6] (fun vv iv wi => ∃ (r vm : Nat) (T : List Nat), r ≤ n ∧ vm ≤ 4294967296 ∧ vv = .int .i64 (vm : Int) ∧ iv = .int .i64 ((r : Int) - 1) ∧ Hid (dg vm r ++ T = dg v n) ∧ Hid (Wr wi w.heap.size n n (List.replicate r 0 ++ T)) ∧ Hid (Ext w wi)) (fun _ iv _ => (intOf iv + 1).toNat)
  case atStart => exact ⟨n, v, [], Nat.le_refl _, hv, rfl, rfl, by show _ = _; rw [List.append_nil], HW0, HX2⟩
  case round =>
    obtain ⟨r, vm, T, hr, hvm, rfl, rfl, HD, HWi, HXi⟩ := hrel
    cases r with
    | succ r =>
      have hlen : (List.replicate (r + 1) 0 ++ T).length = n := by rw [← HWi.out.1.len]
      have cI := HWi.out.1.at (nget_of_lt (j := r) (by rw [hlen]; omega))
      rw [Nat.zero_add] at cI
      obtain ⟨old, hold⟩ : ∃ o, (List.replicate (r + 1) 0 ++ T).getD r 0 = o := ⟨_, rfl⟩
      rw [hold] at cI
      have fI := HWi.out.2 r
      have HW9 := HWi.out.set (i := r) (y := vm % 256) (by omega) (by omega)
      rw [rep_set2] at HW9
      have HD9 : Hid (dg (vm / 256) r ++ (vm % 256 :: T) = dg v n) := by
        show _ = _
        rw [← HD.out]
        show _ = (dg (vm / 256) r ++ [vm % 256]) ++ T
        rw [List.append_assoc]
        rfl
      obtain ⟨y, hy⟩ : ∃ y, vm % 256 = y := ⟨_, rfl⟩
      obtain ⟨q, hq⟩ : ∃ q, vm / 256 = q := ⟨_, rfl⟩
      rw [hy] at HW9 HD9
      rw [hq] at HD9
      have HW9 := Lib.hid HW9
      have HX9 := Lib.hid (HXi.out.setCell (p := ⟨w.heap.size, r, none⟩) (Nat.le_refl _) (.int .u8 (y : Int)))
      have k1 : IntKind.u8.wrap (vm : Int) = (y : Int) := by rw [IntKind.wrap_u8]; omega
      have k2 : (vm : Int) / 256 = (q : Int) := by omega
      have k4 : IntKind.i64.wrap (q : Int) = (q : Int) := by rw [IntKind.wrap_i64]; omega
      have e1 : ((r + 1 : Nat) : Int) - 1 = (r : Int) := by omega
      have k3 : IntKind.i64.wrap ((r : Int) - 1) = (r : Int) - 1 := by rw [IntKind.wrap_i64]; omega
      have x1 : (0 : Int) ≤ (r : Int) := by omega
      have x2 : (r : Int) < (n : Int) := by omega
      have x3 : ((0 : Int) ≤ (r : Int)) = True := eq_true x1
      rw [e1]
      clear hlen hold hy hq
      go_wp2
      go_roundw
      case rel => exact ⟨r, q, y :: T, by omega, by omega, rfl, rfl, HD9, HW9, HX9⟩
      case measure => (first | (simp [intOf]; done) | (simp [intOf]; omega))
    | zero =>
      have HDT : Hid (T = dg v n) := HD.out
      have HW9 := HWi.out.1
      rw [List.replicate_zero, List.nil_append, HDT.out] at HW9
      have HW9 := Lib.hid HW9
      have e1 : (((0 : Nat) : Int) - 1) = -1 := rfl
      rw [e1]
      go_wp2
      go_ret
      exact ⟨_, rfl, HW9.out, .inr ⟨_, _, _, rfl⟩, HXi.out⟩
end Go.Proofs.YtkjllhphpkmaiaaDoor
