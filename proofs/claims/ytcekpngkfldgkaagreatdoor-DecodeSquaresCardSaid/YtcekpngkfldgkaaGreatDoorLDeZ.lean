/- DecodeSquares: plain. -/
import Derived.Test.YtcekpngkfldgkaaGreatDoorLDeY
namespace Go.Proofs.YtcekpngkfldgkaaGreatDoor
set_option linter.unusedVariables false
set_option linter.unusedSimpArgs false
open Go.RowKit Go.Extern.Stop Go.Stop Go.Extern

theorem putRow_out {W x y n : Int} {zs bs : List Int} {k : Nat} (hk : k < zs.length) (h : ¬ inSq W.toNat x.toNat y.toNat n.toNat k) : (putRow W zs x y n bs).getD k 0 = zs.getD k 0 := by
  unfold putRow
  rw [List.getD, rowL_get hk, Option.getD_some]
  unfold putK
  rw [if_neg (fun e => h e.1)]
theorem putRow_sz (W x y n : Int) (zs bs : List Int) : (putRow W zs x y n bs).length = zs.length := by
  unfold putRow
  rw [rowL_length]
theorem putI_out {W x y : Int} {n : Nat} {m : Int} {zs l : List Int} {qp : Int} {k : Nat} (hk : k < zs.length) (h : ¬ inSq W.toNat x.toNat y.toNat n k) : (putI W zs x y n m l qp).getD k 0 = zs.getD k 0 := putRow_out hk (by rw [Int.toNat_natCast]; exact h)
theorem putI_len (W x y : Int) (n : Nat) (m : Int) (zs l : List Int) (qp : Int) : (putI W zs x y n m l qp).length = zs.length := putRow_sz _ _ _ _ _ _
/-- outside of the square nothing changes -/
theorem bld_out {W H x y qp : Int} {zs ps : List Int} {q : Sq} {k : Nat} (hx : 0 ≤ x) (hy : 0 ≤ y) (hk : k < zs.length) (h : ¬ inSq W.toNat x.toNat y.toNat 8 k) : (bld W H zs ps x y qp q).getD k 0 = zs.getD k 0 := by
  unfold bld
  split
  · exact putRow_out hk h
  · split
    · exact putRow_out hk h
    · split
      · exact putI_out hk h
      · unfold bld4
        have ex : (x + 4).toNat = x.toNat + 4 := by omega
        have ey : (y + 4).toNat = y.toNat + 4 := by omega
        rw [putI_out (by rw [putI_len, putI_len, putI_len]; exact hk) (fun e => h (by unfold inSq at e ⊢; rw [ex, ey] at e; omega)),
          putI_out (by rw [putI_len, putI_len]; exact hk) (fun e => h (by unfold inSq at e ⊢; rw [ey] at e; omega)),
          putI_out (by rw [putI_len]; exact hk) (fun e => h (by unfold inSq at e ⊢; rw [ex] at e; omega)),
          putI_out hk (fun e => h (by unfold inSq at e ⊢; omega))]
theorem val_zero (n : Nat) (p r : Int) : valL (zsL n) p = valL (zsL n) r := by
  have e : ∀ i, (zsL n).getD i 0 = 0 := fun i => by
    unfold zsL
    by_cases h : i < n <;> simp [List.getD, h]
  unfold valL
  congr 1
  funext i
  rw [e, Int.zero_mul, Int.zero_mul]
theorem add_zero (p : List Int) (n : Nat) (a b : Int) : addL p (zsL n) a = addL p (zsL n) b := by
  unfold addL resV
  rw [val_zero n a b]
theorem putI_zero (W : Int) (zs : List Int) (x y : Int) (n : Nat) (m : Int) (k : Nat) (a b : Int) : putI W zs x y n m (zsL k) a = putI W zs x y n m (zsL k) b := by
  unfold putI
  rw [add_zero _ k a b]
/-- levels all 0: the same for each number of the quantiser -/
theorem bld_zero (W H : Int) (zs ps : List Int) (x y a b : Int) {q : Sq} (hL : q.L = zsL 64) (h0 : q.s0 = zsL 16) (h1 : q.s1 = zsL 16) (h2 : q.s2 = zsL 16) (h3 : q.s3 = zsL 16) : bld W H zs ps x y a q = bld W H zs ps x y b q := by
  unfold bld bld4
  rw [hL, h0, h1, h2, h3, add_zero _ 64 a b, putI_zero W zs x y 8 q.m 64 a b, putI_zero W zs x y 4 q.a 16 a b, putI_zero W _ (x + 4) y 4 q.b 16 a b, putI_zero W _ x (y + 4) 4 q.c 16 a b, putI_zero W _ (x + 4) (y + 4) 4 q.d 16 a b]
theorem half_two (W H : Int) (zs : List Int) (x y : Int) : halfV W H zs (2 * x) (2 * y) = atV W H zs x y := by
  unfold halfV
  rw [if_neg (by omega), if_neg (by omega), show 2 * x / 2 = x by omega, show 2 * y / 2 = y by omega]
/-- a square that is copied has the samples of the frame ahead -/
theorem bld_copied {W H x y qp : Int} {zs ps : List Int} {q : Sq} {k : Nat} (h0 : q.k = 0) (hz : may W H zs) (hp : may W H ps) (hl : lies W H x y 8) (hk : k < zs.length) (h : inSq W.toNat x.toNat y.toNat 8 k) : (bld W H zs ps x y qp q).getD k 0 = ps.getD k 0 := by
  have hW := sideB_true hz.1
  have hH := sideB_true hz.2.1
  have hlen := hz.2.2.1
  have hplen := hp.2.2.1
  obtain ⟨l1, l2, l3, l4, l5, l6⟩ := hl
  have hlt := idx_lt h
  obtain ⟨N, hN⟩ : ∃ N : Nat, W = (N : Int) := ⟨W.toNat, by omega⟩
  obtain ⟨X, hX⟩ : ∃ N : Nat, x = (N : Int) := ⟨x.toNat, by omega⟩
  obtain ⟨Y, hY⟩ : ∃ N : Nat, y = (N : Int) := ⟨y.toNat, by omega⟩
  subst hN hX hY
  rw [Int.toNat_natCast, Int.toNat_natCast, Int.toNat_natCast] at h hlt
  unfold bld
  rw [if_pos h0]
  unfold putRow
  rw [List.getD, rowL_get hk, Option.getD_some, Int.toNat_natCast, Int.toNat_natCast, Int.toNat_natCast]
  unfold putK
  rw [show (8 : Int).toNat = 8 from rfl, if_pos ⟨h, hlt⟩]
  unfold movL
  show (rowL 64 _).getD (idxSq N X Y 8 k) 0 = ps.getD k 0
  rw [getD_of_get (rowL_get (by omega))]
  obtain ⟨i1, i2, i3, i4⟩ := h
  obtain ⟨a, ha⟩ : ∃ a, k / N = Y + a := ⟨k / N - Y, by omega⟩
  obtain ⟨b, hb⟩ : ∃ b, k % N = X + b := ⟨k % N - X, by omega⟩
  have hix : idxSq N X Y 8 k = a * 8 + b := by unfold idxSq; rw [ha, hb]; omega
  rw [hix, mv_at _ _ _ _ _ _ _ _ (by omega), Int.add_zero, Int.add_zero, half_two]
  have hkk : k = (Y + a) * N + (X + b) := by rw [← ha, ← hb, Nat.mul_comm]; exact (Nat.div_add_mod k N).symm
  have c1 : clampI ((Y : Int) + (a : Int)) H = ((Y + a : Nat) : Int) := by unfold clampI; omega
  have c2 : clampI ((X : Int) + (b : Int)) (N : Int) = ((X + b : Nat) : Int) := by unfold clampI; omega
  unfold atV
  rw [c1, c2, ← Int.natCast_mul, ← Int.natCast_add, ← hkk, Int.toNat_natCast]
/-- the square with levels all 0 -/
def zeQ (q : Sq) : Sq := ⟨q.k, q.m, q.a, q.b, q.c, q.d, q.x, q.y, zsL 64, zsL 16, zsL 16, zsL 16, zsL 16⟩
theorem zs_noLv (n : Nat) : (zsL n).any noLv = false := by
  unfold zsL
  rw [List.any_eq_false]
  intro v hv
  obtain rfl := List.eq_of_mem_replicate hv
  decide
theorem lsE_zero1 : lsE [zsL 64] 64 = none := by rw [lsE_one, zs_lv]
theorem lsE_zero4 : lsE [zsL 16, zsL 16, zsL 16, zsL 16] 16 = none := by
  have e : (zsL 16).length = 16 := by unfold zsL; rw [List.length_replicate]
  rw [lsE_good e e e e, zs_noLv]
  rfl
theorem cp_zero {q : Sq} (h : ptB q = true) : cpF (zeQ q) = none := by
  unfold cpF
  rw [if_pos (show ptB (zeQ q) = true from h)]
  show (if q.k = 1 ∨ q.k = 2 then lsE [zsL 64] 64 else if q.k = 3 then lsE [zsL 16, zsL 16, zsL 16, zsL 16] 16 else none) = none
  split
  · exact lsE_zero1
  · split
    · exact lsE_zero4
    · rfl
/-- where check lets a square through, it lets the one with levels all 0 through, with any number of the quantiser -/
theorem ck_zero {W H : Int} {zs : List Int} {PW PH : Int} {ps : List Int} {x y qp r : Int} {q : Sq} (h : ckD W H zs PW PH ps x y qp q = none) (hr : 0 ≤ r ∧ r ≤ 15) : ckD W H zs PW PH ps x y r (zeQ q) = none := by
  obtain ⟨h1, h2, h3, h4, h5, h6, h7, h8⟩ := ck_none h
  unfold ckD
  rw [if_pos h1, if_pos h2, if_pos hr, if_pos (show 0 ≤ (zeQ q).k ∧ (zeQ q).k ≤ 3 from h5), if_neg (fun e => e.2 (by
    have hk : q.k ≤ 1 := e.1
    obtain ⟨e1, e2, e3⟩ := h8 (by omega)
    subst e1 e2
    exact ⟨e3, rfl, rfl⟩)), cp_zero h6]
theorem bd_zero {W H : Int} {zs : List Int} {PW PH : Int} {ps : List Int} {x y qp r : Int} {q : Sq} (h : ckD W H zs PW PH ps x y qp q = none) (hr : 0 ≤ r ∧ r ≤ 15) : bdV W H zs PW PH ps x y r (zeQ q) = (none, (W, H, bld W H zs ps x y 0 (zeQ q))) := by
  unfold bdV
  rw [ck_zero h hr, bld_zero W H zs ps x y r 0 (q := zeQ q) rfl rfl rfl rfl rfl]
  rfl
end Go.Proofs.YtcekpngkfldgkaaGreatDoor
