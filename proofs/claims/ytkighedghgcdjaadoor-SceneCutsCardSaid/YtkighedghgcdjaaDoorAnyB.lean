/- slices.ContainsFunc at this seat's predicates: contracts over this seat's translation. -/
import Derived.Test.YtkighedghgcdjaaDoorFr
namespace Go.Proofs.YtkighedghgcdjaaDoor
set_option linter.unusedVariables false
set_option linter.unusedSimpArgs false
open Go.RowKit Go.Extern.Stop Go.Stop Go.Extern

def IdxPost (w : World) (b : Bool) (e : Ending) (w' : World) : Prop := ∃ i : Int, e = .returned (.int .i64 i) ∧ decide (0 ≤ i) = b ∧ w = w'
def farB (x : Int) : Bool := decide (x < -1048576) || decide (1048576 < x)
def nzB (x : Int) : Bool := decide (x ≠ 0)
def nosmpB (x : Int) : Bool := decide (x < 0) || decide (255 < x)
theorem any_of_get {zs : List Int} {p : Int → Bool} {k : Nat} {x : Int} (h : zs[k]? = some x) (hp : p x = true) : zs.any p = true := List.any_eq_true.2 ⟨x, List.mem_of_getElem? h, hp⟩
theorem any_no {zs : List Int} {p : Int → Bool} (h : ∀ j x, j < zs.length → zs[j]? = some x → p x = false) : zs.any p = false := by
  rw [Bool.eq_false_iff]
  intro ht
  obtain ⟨x, hx, hp⟩ := List.any_eq_true.1 ht
  obtain ⟨j, hj, e⟩ := List.mem_iff_getElem.1 hx
  have := h j x hj (by rw [List.getElem?_eq_getElem hj, e])
  rw [this] at hp
  cases hp

theorem nosmpB_call (n : Int) (w : World) : Calls Tryd.prog 87 #[.int .i64 n] w fun e w' => e = .returned (.bool (nosmpB n)) ∧ w = w' := by
  have H : Hid ((n != clipI n) = nosmpB n) := by
    show _ = _
    unfold nosmpB clipI
    rw [Bool.eq_iff_iff]
    simp only [bne_iff_ne, ne_eq, Bool.or_eq_true, decide_eq_true_eq]
    omega
  go_enter Tryd.func87, Tryd.ntmps87
  go_wp2_with fail
  refine (clip_any _ _).mono ?_; rintro e w1 ⟨rfl, rfl⟩
  go_wp2
  go_ret
  exact ⟨by rw [← H.out]; rfl, rfl⟩
set_option maxRecDepth 20000 in
set_option maxHeartbeats 1000000 in
theorem nosmpB_idx (zs : List Int) (v : Value) (w : World) (ha : Ints w v zs) :
    Calls Tryd.prog 91 #[v, .func (.func 87) #[] #[]] w (IdxPost w (zs.any nosmpB)) := by
  obtain ⟨a, cap, rfl⟩ := ha.form
  obtain ⟨n, hn⟩ : ∃ n, n = zs.length := ⟨_, rfl⟩
  have hle := ha.2
  rw [← hn] at ha hle ⊢
  have AG := Lib.hid ha.had
  have HN := Lib.hid hn
  clear hn
  go_enter Tryd.func91, Tryd.ntmps91
  go_wp2
  go_loop [8] (fun i => ∃ k : Nat, k ≤ n ∧ i = .int .i64 k ∧ Hid (∀ j x, j < k → zs[j]? = some x → nosmpB x = false)) (fun i => n - (intOf i).toNat)
  case atStart => exact ⟨0, Nat.zero_le _, rfl, fun j _ hj => absurd hj (Nat.not_lt_zero _)⟩
  case round =>
    obtain ⟨k, hk, rfl, HJ⟩ := hrel
    by_cases hlt : k < n
    · obtain ⟨x, hx⟩ : ∃ x, zs[k]? = some x := ⟨_, List.getElem?_eq_getElem (by rw [← HN.out]; exact hlt)⟩
      obtain ⟨g, off, rfl⟩ := AG.out (by omega)
      have cx := ha.at hx
      have HX := Lib.hid hx
      clear hx
      cases hb : nosmpB x with
      | true =>
        have HB := Lib.hid hb
        go_wp2_with (go_at_call 87; refine (nosmpB_call _ _).mono ?_; rintro e w' ⟨rfl, rfl⟩)
        go_ret
        exact ⟨_, rfl, by rw [any_of_get HX.out HB.out]; simp, rfl⟩
      | false =>
        have HB := Lib.hid hb
        go_wp2_with (go_at_call 87; refine (nosmpB_call _ _).mono ?_; rintro e w' ⟨rfl, rfl⟩)
        go_round
        case rel => exact ⟨k + 1, by omega, by go_num, fun j y hj hy => by
          by_cases hjk : j = k
          · subst hjk
            obtain rfl : x = y := Option.some.inj (HX.out.symm.trans hy)
            exact HB.out
          · exact HJ.out j y (by omega) hy⟩
        case measure => simp [intOf]; omega
    · go_wp2
      go_ret
      refine ⟨_, rfl, ?_, rfl⟩
      rw [any_no (fun j x hj hx => HJ.out j x (by rw [← HN.out] at hj; omega) hx)]
      rfl
theorem nosmpB_has (zs : List Int) (v : Value) (w : World) (ha : Ints w v zs) :
    Calls Tryd.prog 86 #[v, .func (.func 87) #[] #[]] w fun e w' => e = .returned (.bool (zs.any nosmpB)) ∧ w = w' := by
  have H := Lib.hid (nosmpB_idx zs v w ha)
  clear ha
  go_enter Tryd.func86, Tryd.ntmps86
  go_wp2_with fail
  refine (H.out).mono ?_; rintro e w1 ⟨i, rfl, hi, rfl⟩
  have HI := Lib.hid hi
  clear hi
  go_wp2
  go_ret
  exact ⟨by rw [← HI.out]; rfl, rfl⟩
end Go.Proofs.YtkighedghgcdjaaDoor
