/- coef.lastLevel: contract over this seat's translation. -/
import Derived.Test.YtdndambkaohgiaaGreatDoorCf4
namespace Go.Proofs.YtdndambkaohgiaaGreatDoor
set_option linter.unusedVariables false
set_option linter.unusedSimpArgs false
open Go.RowKit Go.Extern.Stop Go.Stop Go.Extern

/-- the last place in the order, from i down, whose level is not 0 -/
def lastP (xs : List Int) (od : List Nat) : Nat → Nat
  | 0 => 0
  | i + 1 => if xs.getD (od.getD (i + 1) 0) 0 ≠ 0 then i + 1 else lastP xs od i
theorem lastP_le (xs : List Int) (od : List Nat) : ∀ i, lastP xs od i ≤ i
  | 0 => Nat.le_refl _
  | i + 1 => by
    unfold lastP
    split
    · exact Nat.le_refl _
    · have := lastP_le xs od i; omega
set_option maxRecDepth 20000 in
set_option maxHeartbeats 1000000 in
theorem last_any (l o : Value) (xs : List Int) (od : List Nat) (m : Nat) (w : World) (hl : Ints w l xs) (ho : Ints w o (od.map fun (x : Nat) => (x : Int))) (hm : od.length = m + 1) (hi : ∀ i ∈ od, i < xs.length) : Calls Tryz.prog 43 #[l, o] w fun e w' => e = .returned (.int .i64 (lastP xs od m : Int)) ∧ w' = w := by
  have hx0 : 0 < xs.length := by
    cases od with
    | nil => simp at hm
    | cons x y => have := hi x (by simp); omega
  have hol : (od.map fun (x : Nat) => (x : Int)).length = m + 1 := by rw [List.length_map]; exact hm
  obtain ⟨g, off, cap, rfl, c1, c2⟩ := hl.addr hx0
  obtain ⟨g', off', cap', rfl, c3, c4⟩ := ho.addr (by omega)
  rw [hol] at c3 ho ⊢
  have hn := hl.2
  have hn2 := ho.2
  rw [hol] at hn2
  have UL := Lib.hid (fun j x (h : xs[j]? = some x) => hl.at h)
  have UO := Lib.hid (fun j x (h : (od.map fun (x : Nat) => (x : Int))[j]? = some x) => ho.at h)
  obtain ⟨n, hnn⟩ : ∃ n, xs.length = n := ⟨_, rfl⟩
  rw [hnn] at c1 hn ⊢
  have hI := Lib.hid hi
  have q0 : IntKind.i64.wrap (((m + 1 : Nat) : Int) - 1) = (m : Int) := by rw [IntKind.wrap_i64]; omega
  have q1 : IntKind.i64.wrap ((m : Int) + 1 - 1) = (m : Int) := by rw [IntKind.wrap_i64]; omega
  clear hl ho hi hx0 hol
  go_enter Tryz.func43, Tryz.ntmps43
  go_wp2_with fail
  go_loopw [5] (fun iv wr => ∃ i : Nat, i ≤ m ∧ iv = .int .i64 (i : Int) ∧ Hid (lastP xs od m = lastP xs od i) ∧ wr = w) (fun iv _ => (intOf iv).toNat)
  case atStart => exact ⟨m, Nat.le_refl _, by go_num, rfl, rfl⟩
  case round =>
    obtain ⟨i, hi, rfl, HS, rfl⟩ := hrel
    cases i
    · have hs := HS.out
      rw [show lastP xs od 0 = 0 from rfl] at hs
      have HR := Lib.hid hs
      clear hs HS
      go_wp2
      go_ret
      exact ⟨by rw [HR.out]; rfl, rfl⟩
    · rename_i i
      obtain ⟨d, hd⟩ : ∃ d, od[i + 1]? = some d := ⟨_, List.getElem?_eq_getElem (by omega)⟩
      have hdn : d < n := by rw [← hnn]; exact hI.out d (List.mem_of_getElem? hd)
      obtain ⟨x, hx⟩ : ∃ x, xs[d]? = some x := ⟨_, List.getElem?_eq_getElem (by omega)⟩
      have c5 := UO.out (i + 1) (d : Int) (by rw [List.getElem?_map, hd]; rfl)
      have c6 := UL.out d x hx
      have hs : lastP xs od m = if xs.getD (od.getD (i + 1) 0) 0 ≠ 0 then i + 1 else lastP xs od i := HS.out
      rw [show od.getD (i + 1) 0 = d by rw [List.getD_eq_getElem?_getD, hd]; rfl, show xs.getD d 0 = x by rw [List.getD_eq_getElem?_getD, hx]; rfl] at hs
      have x0 : ((i + 1 : Nat) : Int) > 0 := by omega
      have x1 : (0 : Int) ≤ ((i + 1 : Nat) : Int) := by omega
      have x2 : ((i + 1 : Nat) : Int) < ((m + 1 : Nat) : Int) := by omega
      have x3 : (0 : Int) ≤ (d : Int) := by omega
      have x4 : (d : Int) < (n : Int) := by omega
      have q2 : IntKind.i64.wrap (((i + 1 : Nat) : Int) - 1) = (i : Int) := by rw [IntKind.wrap_i64]; omega
      have q3 : IntKind.i64.wrap ((i : Int) + 1 - 1) = (i : Int) := by rw [IntKind.wrap_i64]; omega
      by_cases hxz : x = 0
      · subst hxz
        have HS2 : Hid (lastP xs od m = lastP xs od i) := by
          show _ = _
          rw [hs]; rfl
        clear hs HS hd hx hdn
        go_wp2
        go_roundw
        case rel => exact ⟨i, by omega, by go_num, HS2.out, by first | rfl | trivial⟩
        case measure => simp [intOf] <;> omega
      · have HR : Hid (lastP xs od m = i + 1) := by
          show _ = _
          rw [hs, if_pos hxz]
        have x5 : (x == 0) = false := beq_eq_false_iff_ne.2 hxz
        have x6 : (x != 0) = true := bne_iff_ne.2 hxz
        clear hs HS hd hx hdn
        go_wp2
        go_ret
        exact ⟨by rw [HR.out]; rfl, rfl⟩
end Go.Proofs.YtdndambkaohgiaaGreatDoor
