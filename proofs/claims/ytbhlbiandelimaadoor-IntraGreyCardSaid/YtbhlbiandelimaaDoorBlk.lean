/- block.matched, Sad, Sub, Add, Zero: contracts over this seat's translation. -/
import Derived.Test.YtbhlbiandelimaaDoorAnyB
import Derived.Test.YtbhlbiandelimaaDoorFr
import Derived.Test.YtbhlbiandelimaaDoorBMath
import Derived.Test.YtbhlbiandelimaaDoorWOwn
import Derived.Test.YtbhlbiandelimaaDoorPush
import Derived.BigRegion
import Derived.BigQuiet
import Derived.Deep.QuietTactic
namespace Go.Proofs.YtbhlbiandelimaaDoor
set_option linter.unusedVariables false
set_option linter.unusedSimpArgs false
open Go.RowKit Go.Extern.Stop Go.Stop Go.Extern

def fit : Fall := some ([], 14)
def range : Fall := some ([], 3)
/-- what forbids to hold two lists against one another -/
def matAns (xs ys : List Int) : Fall := if xs.length = ys.length then (if xs.any farB = true ∨ ys.any farB = true then range else none) else fit
theorem farB_no {x : Int} (h : farB x = false) : -1048576 ≤ x ∧ x ≤ 1048576 := by
  unfold farB at h
  simp at h
  omega
theorem any_false {zs : List Int} {p : Int → Bool} (h : zs.any p = false) (j : Nat) (d : Int) (hd : p d = false) : p (zs.getD j d) = false := by
  by_cases hj : j < zs.length
  · have hm : zs.getD j d ∈ zs := by simp [List.getD, hj]
    cases hp : p (zs.getD j d) with
    | false => rfl
    | true => rw [List.any_eq_true.2 ⟨_, hm, hp⟩] at h; cases h
  · simpa [List.getD, List.getElem?_eq_none (Nat.not_lt.1 hj)] using hd
theorem matAns_none {xs ys : List Int} (h : matAns xs ys = none) : xs.length = ys.length ∧ (∀ j, -1048576 ≤ xs.getD j 0 ∧ xs.getD j 0 ≤ 1048576) ∧ ∀ j, -1048576 ≤ ys.getD j 0 ∧ ys.getD j 0 ≤ 1048576 := by
  unfold matAns at h
  split at h
  · rename_i h1
    split at h
    · cases h
    · rename_i h2
      refine ⟨h1, fun j => farB_no (any_false ?_ j 0 rfl), fun j => farB_no (any_false ?_ j 0 rfl)⟩
      · cases hx : xs.any farB with
        | false => rfl
        | true => exact absurd (Or.inl hx) h2
      · cases hx : ys.any farB with
        | false => rfl
        | true => exact absurd (Or.inr hx) h2
  · cases h

set_option maxRecDepth 20000 in
theorem matched_any (xs ys : List Int) (v u : Value) (w : World) (ha : Ints w v xs) (hb : Ints w u ys) :
    Calls Tryd.prog 55 #[v, u] w (EPost w (matAns xs ys)) := by
  obtain ⟨a, cap, rfl⟩ := ha.form
  obtain ⟨b, cap', rfl⟩ := hb.form
  by_cases hl : xs.length = ys.length
  · have b1 : ((xs.length : Int) != (ys.length : Int)) = false := by simp; omega
    have H1 := Lib.hid (farB_has xs _ w ha)
    have H2 := Lib.hid (farB_has ys _ w hb)
    cases hx : xs.any farB with
    | true =>
      have HR : Hid (matAns xs ys = range) := by show _ = _; unfold matAns; rw [if_pos hl, if_pos (Or.inl hx)]
      clear hl ha hb
      go_enter Tryd.func55, Tryd.ntmps55
      go_wp2_with fail
      refine (H1.out).mono ?_; rintro e w1 ⟨rfl, rfl⟩
      go_wp2
      go_ret
      exact ⟨_, rfl, Ext.refl w, by rw [HR.out]; exact ErrIs.code (by decide)⟩
    | false =>
      cases hy : ys.any farB with
      | true =>
        have HR : Hid (matAns xs ys = range) := by show _ = _; unfold matAns; rw [if_pos hl, if_pos (Or.inr hy)]
        clear hl ha hb
        go_enter Tryd.func55, Tryd.ntmps55
        go_wp2_with fail
        refine (H1.out).mono ?_; rintro e w1 ⟨rfl, rfl⟩
        go_wp2_with fail
        refine (H2.out).mono ?_; rintro e w2 ⟨rfl, rfl⟩
        go_wp2
        go_ret
        exact ⟨_, rfl, Ext.refl w, by rw [HR.out]; exact ErrIs.code (by decide)⟩
      | false =>
        have HR : Hid (matAns xs ys = none) := by show _ = _; unfold matAns; rw [if_pos hl, if_neg (by rw [hx, hy]; decide)]
        clear hl ha hb
        go_enter Tryd.func55, Tryd.ntmps55
        go_wp2_with fail
        refine (H1.out).mono ?_; rintro e w1 ⟨rfl, rfl⟩
        go_wp2_with fail
        refine (H2.out).mono ?_; rintro e w2 ⟨rfl, rfl⟩
        go_wp2
        go_ret
        exact ⟨_, rfl, Ext.refl w, by rw [HR.out]; rfl⟩
  · have b1 : ((xs.length : Int) != (ys.length : Int)) = true := by simp; omega
    have HR : Hid (matAns xs ys = fit) := by show _ = _; unfold matAns; rw [if_neg hl]
    clear hl ha hb
    go_enter Tryd.func55, Tryd.ntmps55
    go_wp2
    go_ret
    exact ⟨_, rfl, Ext.refl w, by rw [HR.out]; exact ErrIs.code (by decide)⟩
/-- how unlike two lists are -/
def sadV (xs ys : List Int) : Int := match matAns xs ys with
  | none => sadF (fun i => xs.getD i 0) (fun i => ys.getD i 0) xs.length
  | some _ => 0
theorem getD_of_get {zs : List Int} {j : Nat} {x : Int} (h : zs[j]? = some x) : zs.getD j 0 = x := by simp [List.getD, h]
theorem get_of_lt {zs : List Int} {j : Nat} (h : j < zs.length) : zs[j]? = some (zs.getD j 0) := by simp [List.getD, h]

set_option maxRecDepth 20000 in
set_option maxHeartbeats 1000000 in
theorem sad_any (xs ys : List Int) (v u : Value) (w : World) (ha : Ints w v xs) (hb : Ints w u ys) (hN : xs.length ≤ 1000000) :
    Calls Tryd.prog 28 #[v, u] w (IPost w (sadV xs ys) (matAns xs ys)) := by
  have M := Lib.hid (matched_any xs ys v u w ha hb)
  obtain ⟨a, cap, rfl⟩ := ha.form
  obtain ⟨b, cap', rfl⟩ := hb.form
  cases hm : matAns xs ys with
  | some f =>
    have HV : Hid (sadV xs ys = 0) := by show _ = _; unfold sadV; rw [hm]
    rw [hm] at M
    clear ha hb hm
    go_enter Tryd.func28, Tryd.ntmps28
    go_wp2_with fail
    refine (M.out).mono ?_; rintro e w1 ⟨x, rfl, hx, he⟩
    obtain ⟨t, y, rfl⟩ := he.ne
    go_wp2
    go_ret2
    exact ⟨_, by rw [HV.out]; rfl, hx, he⟩
  | none =>
    obtain ⟨hl, hX, hY⟩ := matAns_none hm
    have HV : Hid (sadV xs ys = sadF (fun i => xs.getD i 0) (fun i => ys.getD i 0) xs.length) := by show _ = _; unfold sadV; rw [hm]
    rw [hm] at M
    obtain ⟨n, hn⟩ : ∃ n, n = xs.length := ⟨_, rfl⟩
    rw [← hn] at ha hN HV hl M ⊢
    rw [← hl] at hb M ⊢
    have AG := Lib.hid ha.had
    have BG := Lib.hid hb.had
    have HN := Lib.hid hn
    have HL := Lib.hid hl
    have HX := Lib.hid hX
    have HY := Lib.hid hY
    clear hm hl hX hY hn
    go_enter Tryd.func28, Tryd.ntmps28
    go_wp2_with fail
    refine (M.out).mono ?_; rintro e w1 ⟨x, rfl, hx, he⟩
    obtain rfl : x = .nilIface := he
    have ha := ha.ext hx
    have hb := hb.ext hx
    go_wp2
    go_loopw [7, 18] (fun sv iv wr => ∃ k : Nat, k ≤ n ∧ iv = .int .i64 k ∧ sv = .int .i64 (sadF (fun i => xs.getD i 0) (fun i => ys.getD i 0) k) ∧ Ext w1 wr) (fun _ iv _ => n - (intOf iv).toNat)
    case atStart => exact ⟨0, Nat.zero_le _, rfl, rfl, Ext.refl _⟩
    case round =>
      obtain ⟨k, hk, rfl, rfl, hE⟩ := hrel
      by_cases hlt : k < n
      · obtain ⟨x, hx'⟩ : ∃ x, xs.getD k 0 = x := ⟨_, rfl⟩
        obtain ⟨y, hy'⟩ : ∃ y, ys.getD k 0 = y := ⟨_, rfl⟩
        obtain ⟨g, off, rfl⟩ := AG.out (by omega)
        obtain ⟨g', off', rfl⟩ := BG.out (by omega)
        have cx := hE.cell (ha.at (get_of_lt (by rw [← HN.out]; exact hlt)))
        have cy := hE.cell (hb.at (get_of_lt (by rw [← HL.out]; exact hlt)))
        have bx := HX.out k
        have by' := HY.out k
        have b0 := sadF_bound HX.out HY.out k
        have b1 := sadF_pos (fun i => xs.getD i 0) (fun i => ys.getD i 0) k
        have HS : Hid (sadF (fun i => xs.getD i 0) (fun i => ys.getD i 0) (k + 1) = sadF (fun i => xs.getD i 0) (fun i => ys.getD i 0) k + max (x - y) (y - x)) := by show _ = _; rw [← hx', ← hy']; rfl
        rw [hx'] at cx bx
        rw [hy'] at cy by'
        clear hx' hy'
        revert b0 b1 HS
        generalize sadF (fun i => xs.getD i 0) (fun i => ys.getD i 0) k = s
        intro b0 b1 HS
        have r1 := mx2
        have e1 : IntKind.i64.wrap (x - y) = x - y := by rw [IntKind.wrap_i64]; omega
        have e2 : IntKind.i64.wrap (y - x) = y - x := by rw [IntKind.wrap_i64]; omega
        have e3 : IntKind.i64.wrap (s + max (x - y) (y - x)) = s + max (x - y) (y - x) := by rw [IntKind.wrap_i64]; omega
        go_wp2
        go_quiet (fail)
        go_wp2
        go_roundw
        case rel => exact ⟨k + 1, by omega, by go_num, by rw [HS.out], hE.drewN _⟩
        case measure => simp [intOf]; omega
      · obtain rfl : k = n := by omega
        go_wp2
        go_ret2
        exact ⟨_, by rw [HV.out]; rfl, hx.trans hE, rfl⟩
end Go.Proofs.YtbhlbiandelimaaDoor
