/- A frame with a square laid in it: it may be; what is taken from it; squares beside one another. -/
import Derived.Test.YtkighedghgcdjaaDoorPutA
import Derived.Test.YtkighedghgcdjaaDoorGet
namespace Go.Proofs.YtkighedghgcdjaaDoor
set_option linter.unusedVariables false
set_option linter.unusedSimpArgs false
open Go.RowKit

def sqV (W x y n : Int) (zs bs : List Int) (k : Nat) : Int := if inSq W.toNat x.toNat y.toNat n.toNat k then bs.getD (idxSq W.toNat x.toNat y.toNat n.toNat k) 0 else zs.getD k 0
theorem idx_lt {W X Y N k : Nat} (h : inSq W X Y N k) : idxSq W X Y N k < N * N := by
  obtain ⟨J, t, h1, h2, -, h4⟩ := sq_at h
  rw [h4]
  have := Nat.mul_le_mul_right N (show J + 1 ≤ N from h1)
  rw [Nat.succ_mul] at this
  omega
theorem putRow_len (W : Int) (zs : List Int) (x y n : Int) (bs : List Int) : (putRow W zs x y n bs).length = zs.length := rowL_length _ _
theorem putRow_get {W x y n : Int} {zs bs : List Int} {k : Nat} (hk : k < zs.length) : (putRow W zs x y n bs).getD k 0 = sqV W x y n zs bs k := by
  unfold putRow sqV
  rw [List.getD, rowL_get hk, Option.getD_some]
  unfold putK
  by_cases hs : inSq W.toNat x.toNat y.toNat n.toNat k
  · rw [if_pos ⟨hs, idx_lt hs⟩, if_pos hs]
  · rw [if_neg (fun e => hs e.1), if_neg hs]
theorem list_gets {xs ys : List Int} (hl : xs.length = ys.length) (h : ∀ k, k < xs.length → xs.getD k 0 = ys.getD k 0) : xs = ys := by
  apply List.ext_getElem?
  intro j
  by_cases hj : j < xs.length
  · rw [get_of_lt hj, get_of_lt (by omega), h j hj]
  · rw [List.getElem?_eq_none (by omega), List.getElem?_eq_none (by omega)]
theorem within_getD {lo hi : Int} {zs : List Int} (h : ∀ k, k < zs.length → lo ≤ zs.getD k 0 ∧ zs.getD k 0 ≤ hi) : within lo hi zs := within_of_gets fun j x hj hx => by
  have := h j hj
  rw [getD_of_get hx] at this
  exact this
theorem getD_within {lo hi : Int} {zs : List Int} (h : within lo hi zs) {k : Nat} (hk : k < zs.length) : lo ≤ zs.getD k 0 ∧ zs.getD k 0 ≤ hi := h.at (get_of_lt hk)
theorem put_may {W H x y n : Int} {zs bs : List Int} (h : putAns W H zs x y n bs = none) : may W H (putRow W zs x y n bs) := by
  obtain ⟨h1, h2, h3, h4⟩ := putAns_none h
  obtain ⟨m1, m2, m3, m4⟩ := h1
  obtain ⟨l1, l2, l3, l4, l5, l6⟩ := h2
  refine ⟨m1, m2, by rw [putRow_len]; exact m3, within_getD fun k hk => ?_⟩
  rw [putRow_len] at hk
  rw [putRow_get hk]
  unfold sqV
  by_cases hs : inSq W.toNat x.toNat y.toNat n.toNat k
  · rw [if_pos hs]
    have h5 := idx_lt hs
    have h6 : ((n.toNat * n.toNat : Nat) : Int) = n * n := by push_cast; rw [Int.toNat_of_nonneg (by omega)]
    exact getD_within h4 (by omega)
  · rw [if_neg hs]
    exact getD_within m4 hk
theorem nat_place {W X Y : Nat} : (((Y : Int) * (W : Int) + (X : Int)).toNat) = Y * W + X := by
  have : (Y : Int) * (W : Int) + (X : Int) = ((Y * W + X : Nat) : Int) := by push_cast; rfl
  rw [this]
  rfl
theorem at_inside {W H : Int} {zs : List Int} (i j : Nat) (hi : (i : Int) < W) (hj : (j : Int) < H) : atV W H zs i j = zs.getD (j * W.toNat + i) 0 := by
  unfold atV
  have e1 : clampI (j : Int) H = (j : Int) := by unfold clampI; omega
  have e2 : clampI (i : Int) W = (i : Int) := by unfold clampI; omega
  obtain ⟨Wn, rfl⟩ : ∃ k : Nat, W = (k : Int) := ⟨W.toNat, by omega⟩
  rw [e1, e2, nat_place]
  rfl
/-- what was laid is taken -/
theorem put_get {W H x y n : Int} {zs bs : List Int} (h : putAns W H zs x y n bs = none) : getL W H (putRow W zs x y n bs) x y n = bs := by
  have hm := put_may h
  obtain ⟨h1, h2, h3, h4⟩ := putAns_none h
  obtain ⟨l1, l2, l3, l4, l5, l6⟩ := h2
  have sW := sideB_true h1.1
  have sH := sideB_true h1.2.1
  have hz := h1.2.2.1
  unfold getL
  rw [if_pos ⟨hm, ⟨l1, l2⟩, by unfold nearB; simp; omega, by unfold nearB; simp; omega⟩]
  obtain ⟨Wn, rfl⟩ : ∃ k : Nat, W = (k : Int) := ⟨W.toNat, by omega⟩
  obtain ⟨Hn, rfl⟩ : ∃ k : Nat, H = (k : Int) := ⟨H.toNat, by omega⟩
  obtain ⟨X, rfl⟩ : ∃ k : Nat, x = (k : Int) := ⟨x.toNat, by omega⟩
  obtain ⟨Y, rfl⟩ : ∃ k : Nat, y = (k : Int) := ⟨y.toNat, by omega⟩
  obtain ⟨N, rfl⟩ : ∃ k : Nat, n = (k : Int) := ⟨n.toNat, by omega⟩
  have h5 : bs.length = N * N := by
    have : ((bs.length : Nat) : Int) = ((N * N : Nat) : Int) := by rw [h3]; push_cast; rfl
    omega
  have hzn : zs.length = Wn * Hn := by
    have : ((zs.length : Nat) : Int) = ((Wn * Hn : Nat) : Int) := by rw [hz]; push_cast; rfl
    omega
  have hN : 0 < N := by omega
  refine list_gets (by rw [rowL_length, h5]; rfl) fun k hk => ?_
  rw [rowL_length] at hk
  have hk' : k < N * N := hk
  rw [List.getD, rowL_get hk, Option.getD_some]
  unfold getF
  have hd : k / N < N := (Nat.div_lt_iff_lt_mul hN).2 hk'
  have hmo : k % N < N := Nat.mod_lt _ hN
  have hX : X + N ≤ Wn := by omega
  obtain ⟨s1, s2⟩ := in_sq (Y := Y) hX hd hmo
  rw [pos_of] at s2
  show atV _ _ _ ((X : Int) + ((k % N : Nat) : Int)) ((Y : Int) + ((k / N : Nat) : Int)) = _
  rw [show (X : Int) + ((k % N : Nat) : Int) = ((X + k % N : Nat) : Int) by push_cast; rfl, show (Y : Int) + ((k / N : Nat) : Int) = ((Y + k / N : Nat) : Int) by push_cast; rfl]
  rw [at_inside _ _ (by omega) (by omega)]
  have hlt : (Y + k / N) * Wn + (X + k % N) < zs.length := by
    rw [hzn]
    have : (Y + k / N + 1) * Wn ≤ Hn * Wn := Nat.mul_le_mul_right Wn (by omega)
    rw [Nat.succ_mul, Nat.mul_comm Hn Wn] at this
    omega
  show (putRow (Wn : Int) zs (X : Int) (Y : Int) (N : Int) bs).getD ((Y + k / N) * Wn + (X + k % N)) 0 = _
  rw [putRow_get hlt]
  unfold sqV
  show (if inSq Wn X Y N _ then _ else _) = _
  rw [if_pos s1]
  show bs.getD (idxSq Wn X Y N _) 0 = _
  rw [s2]
/-- all other samples stay -/
theorem put_other {W H x y n : Int} {zs bs : List Int} (h : putAns W H zs x y n bs = none) (i j : Nat) (hi : (i : Int) < W) (hj : (j : Int) < H) (ho : (i : Int) < x ∨ x + n ≤ i ∨ (j : Int) < y ∨ y + n ≤ j) :
    atA W H (putRow W zs x y n bs) i j = atA W H zs i j := by
  have hm := put_may h
  obtain ⟨h1, h2, h3, h4⟩ := putAns_none h
  obtain ⟨l1, l2, l3, l4, l5, l6⟩ := h2
  have hz := h1.2.2.1
  unfold atA
  rw [if_pos hm, if_pos h1, at_inside i j hi hj, at_inside i j hi hj]
  obtain ⟨Wn, rfl⟩ : ∃ k : Nat, W = (k : Int) := ⟨W.toNat, by omega⟩
  obtain ⟨Hn, rfl⟩ : ∃ k : Nat, H = (k : Int) := ⟨H.toNat, by omega⟩
  have hzn : zs.length = Wn * Hn := by
    have : ((zs.length : Nat) : Int) = ((Wn * Hn : Nat) : Int) := by rw [hz]; push_cast; rfl
    omega
  have hlt : j * Wn + i < zs.length := by
    rw [hzn]
    have : (j + 1) * Wn ≤ Hn * Wn := Nat.mul_le_mul_right Wn (by omega)
    rw [Nat.succ_mul, Nat.mul_comm Hn Wn] at this
    omega
  show (putRow (Wn : Int) zs x y n bs).getD (j * Wn + i) 0 = zs.getD (j * Wn + i) 0
  rw [putRow_get hlt]
  unfold sqV
  rw [if_neg]
  intro hs
  obtain ⟨q1, q2, q3, q4⟩ := hs
  obtain ⟨e1, e2⟩ := pos_div (W := Wn) (R := j) (C := i) (by omega)
  have e3 : ((Wn : Int)).toNat = Wn := rfl
  rw [e3, e1] at q1 q2
  rw [e3, e2] at q3 q4
  omega
/-- two squares that do not overlap -/
theorem put_two {W H x y u v n : Int} {zs bs cs : List Int} (h : putAns W H zs x y n bs = none) (k : putAns W H zs u v n cs = none) (hd : ¬ (u < x + n ∧ x < u + n ∧ v < y + n ∧ y < v + n)) :
    putRow W (putRow W zs x y n bs) u v n cs = putRow W (putRow W zs u v n cs) x y n bs := by
  obtain ⟨h1, h2, h3, h4⟩ := putAns_none h
  obtain ⟨k1, k2, k3, k4⟩ := putAns_none k
  obtain ⟨l1, l2, l3, l4, l5, l6⟩ := h2
  obtain ⟨o1, o2, o3, o4, o5, o6⟩ := k2
  refine list_gets (by simp only [putRow_len]) fun i hi => ?_
  simp only [putRow_len] at hi
  rw [putRow_get (by rw [putRow_len]; exact hi), putRow_get (by rw [putRow_len]; exact hi)]
  unfold sqV
  rw [putRow_get hi, putRow_get hi]
  unfold sqV
  by_cases s1 : inSq W.toNat x.toNat y.toNat n.toNat i
  · by_cases s2 : inSq W.toNat u.toNat v.toNat n.toNat i
    · exfalso
      obtain ⟨a1, a2, a3, a4⟩ := s1
      obtain ⟨c1, c2, c3, c4⟩ := s2
      apply hd
      omega
    · rw [if_neg s2, if_pos s1, if_pos s1]
  · by_cases s2 : inSq W.toNat u.toNat v.toNat n.toNat i
    · rw [if_pos s2, if_neg s1, if_pos s2]
    · rw [if_neg s2, if_neg s1, if_neg s1, if_neg s2]
theorem put_twice {W x y n : Int} {zs bs : List Int} : putRow W (putRow W zs x y n bs) x y n bs = putRow W zs x y n bs := by
  refine list_gets (by simp only [putRow_len]) fun i hi => ?_
  simp only [putRow_len] at hi
  rw [putRow_get (by rw [putRow_len]; exact hi), putRow_get hi]
  unfold sqV
  by_cases s1 : inSq W.toNat x.toNat y.toNat n.toNat i
  · rw [if_pos s1, if_pos s1]
  · rw [if_neg s1, putRow_get hi]
    unfold sqV
    rw [if_neg s1]
theorem put_on {W H x y u v n : Int} {zs bs cs : List Int} (h : putAns W H zs x y n bs = none) (k : putAns W H zs u v n cs = none) : putAns W H (putRow W zs x y n bs) u v n cs = none := by
  obtain ⟨k1, k2, k3, k4⟩ := putAns_none k
  unfold putAns
  rw [if_pos (put_may h), if_pos k2, if_pos k3, if_pos k4]
end Go.Proofs.YtkighedghgcdjaaDoor
