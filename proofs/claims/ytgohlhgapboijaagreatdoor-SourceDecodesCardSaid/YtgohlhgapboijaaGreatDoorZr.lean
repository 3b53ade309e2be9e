/- Contracts of this seat: Swp, Swk. -/
import Derived.Test.YtgohlhgapboijaaGreatDoorZq
import Derived.Test.YtgohlhgapboijaaGreatDoorZo
import Derived.Test.YtgohlhgapboijaaGreatDoorZe
/- A video there and back (plain): what was written is read; over a part of its bytes, or over more. -/
namespace Go.Proofs.YtgohlhgapboijaaGreatDoor
set_option linter.unusedVariables false
set_option linter.unusedSimpArgs false
open Go.RowKit Go.Extern.Stop Go.Stop Go.Extern

theorem getD_take15 {zs : List Int} {i j : Nat} (h : j < i) : (zs.take i).getD j 0 = zs.getD j 0 := by
  rw [List.getD, List.getD, List.getElem?_take, if_pos h]
theorem gsV_take {W : Int} {zs : List Int} {x y A i : Nat} (hl : A + x = i) (hW : 1 ≤ W) (hA : y ≠ 0 → W ≤ (A : Int)) (h0 : y = 0 → A = 0) : gsV W (zs.take i) x y A = gsV W zs x y A := by
  unfold gsV
  by_cases hy : y = 0
  · rw [if_pos hy, if_pos hy]
    have := h0 hy
    by_cases hx : x = 0
    · rw [if_pos hx, if_pos hx]
    · rw [if_neg hx, if_neg hx, getD_take15 (by omega)]
  · rw [if_neg hy, if_neg hy]
    have := hA hy
    by_cases hx : x = 0
    · rw [if_pos hx, if_pos hx, getD_take15 (by omega)]
    · rw [if_neg hx, if_neg hx, getD_take15 (by omega), getD_take15 (by omega), getD_take15 (by omega)]
theorem gsI_take {W i : Nat} {zs : List Int} (hW : 1 ≤ W) : gsI W (zs.take i) i = gsV (W : Int) zs (i % W) (i / W) (i / W * W) := by
  unfold gsI
  have hd := Nat.div_add_mod i W
  rw [Nat.mul_comm] at hd
  refine gsV_take hd (by omega) (fun hy => ?_) (fun hy => by rw [hy, Nat.zero_mul])
  have : 1 * W ≤ i / W * W := Nat.mul_le_mul_right W (Nat.pos_of_ne_zero hy)
  omega
theorem folds_part (W : Nat) (zs : List Int) {i n : Nat} (h : i < n) : ∃ m, folds W zs n = folds W zs i ++ fldV W zs i :: m := by
  refine ⟨((List.range n).drop (i + 1)).map (fldV W zs), ?_⟩
  have e : List.range n = List.range (i + 1) ++ (List.range n).drop (i + 1) := by
    have := (List.take_append_drop (i + 1) (List.range n)).symm
    rwa [List.take_range, Nat.min_eq_left (by omega)] at this
  unfold folds
  conv => lhs; rw [e]
  rw [List.map_append, List.range_succ, List.map_append, List.append_assoc]
  rfl
theorem ricL_app (a b : List Int) (k : Nat) : ricL (a ++ b) k = ricL a k ++ ricL b k := by simp [ricL]
theorem ricL_cons (v : Int) (b : List Int) (k : Nat) : ricL (v :: b) k = riL v.toNat k ++ ricL b k := by simp [ricL]
theorem fldV_ok {W : Nat} {zs : List Int} (h : Byt zs) (i : Nat) : (0 ≤ fldV W zs i ∧ fldV W zs i ≤ 510) ∧ unfoldI (fldV W zs i) = zs.getD i 0 - gsV (W : Int) zs (i % W) (i / W) (i / W * W) := by
  have h1 := h i
  have h2 := gsV_bound (W := (W : Int)) h (i % W) (i / W) (i / W * W)
  unfold fldV
  refine ⟨fold_bound (by omega), unfold_fold (by omega)⟩
theorem rdS_back {l l0 m : List Bool} {W k n : Nat} {zs : List Int} (hW : 1 ≤ W) (hk : k ≤ 7) (hz : zs.length = n) (hb : Byt zs) (e : l = l0 ++ ricL (folds W zs n) k ++ m) :
    ∀ f i, i + f = n → rdS (pkL l) (k : Int) W f (zs.take i) (l0.length + (ricL (folds W zs i) k).length) = (none, zs, l0.length + (ricL (folds W zs n) k).length)
  | 0, i, hi => by
    obtain rfl : i = n := by omega
    rw [List.take_of_length_le (by omega)]
    rfl
  | f + 1, i, hi => by
    obtain ⟨t, ht⟩ := folds_part W zs (i := i) (n := n) (by omega)
    obtain ⟨⟨b1, b2⟩, b3⟩ := fldV_ok (W := W) hb i
    have hR : RiIs (pkL l) (l0.length + (ricL (folds W zs i) k).length) (fldV W zs i).toNat k := by
      rw [← List.length_append]
      refine RiIs.back (m := ricL t k ++ m) ?_ (by omega)
      rw [e, ht, ricL_app, ricL_cons]
      simp only [List.append_assoc]
    have hG := rgG_of (k := (k : Int)) (most := 510) (by omega) (by simpa using hR) (by omega) (by omega)
    rw [show (((fldV W zs i).toNat : Nat) : Int) = fldV W zs i by omega, Int.toNat_natCast] at hG
    have hl : (zs.take i).length = i := by rw [List.length_take]; omega
    have hv := hb i
    have hs : gsI W (zs.take i) i + unfoldI (fldV W zs i) = zs.getD i 0 := by rw [gsI_take hW, b3]; omega
    simp only [rdS]
    rw [hG]
    simp only [if_true]
    rw [hl, hs, if_pos (by unfold clipI; omega)]
    have hsn : zs.take i ++ [zs.getD i 0] = zs.take (i + 1) := by
      rw [List.take_add_one, iget_of_lt (by omega)]
      rfl
    have hpos : l0.length + (ricL (folds W zs i) k).length + (riL (fldV W zs i).toNat k).length = l0.length + (ricL (folds W zs (i + 1)) k).length := by
      rw [folds_succ, ricL_snoc, List.length_append]
      omega
    rw [hsn, hpos]
    exact rdS_back hW hk hz hb e f (i + 1) (by omega)
theorem rdFr_back {l l0 m : List Bool} {W H : Nat} {zs : List Int} (hm : may (W : Int) (H : Int) zs) (e : l = l0 ++ frBits ((W : Int), (H : Int), zs) ++ m) :
    rdFr (pkL l) W H l0.length = (none, zs, l0.length + (frBits ((W : Int), (H : Int), zs)).length) := by
  have hb := byt_of_may hm
  have hz : zs.length = W * H := by
    have h1 := hm.2.2.1
    have : ((zs.length : Nat) : Int) = ((W * H : Nat) : Int) := by rw [h1]; simp
    exact Int.ofNat.inj this
  have hW := sideB_true hm.1
  obtain ⟨k, hk⟩ : ∃ k, bestK (folds W zs (W * H)) = k := ⟨_, rfl⟩
  have hk7 : k ≤ 7 := by rw [← hk]; exact bestK_le _
  have hB : frBits ((W : Int), (H : Int), zs) = bsOf k 3 ++ ricL (folds W zs (W * H)) k := by
    unfold frBits frB
    show bsOf (bestK (folds ((W : Int)).toNat zs zs.length)) 3 ++ ricL (folds ((W : Int)).toNat zs zs.length) (bestK (folds ((W : Int)).toNat zs zs.length)) = _
    rw [Int.toNat_natCast, hz, hk]
  rw [hB] at e ⊢
  have hlen : l.length = l0.length + (3 + (ricL (folds W zs (W * H)) k).length) + m.length := by rw [e]; simp only [List.length_append, bsOf_length]
  obtain ⟨g1, g2, g3⟩ := rd_good (bs := pkL l) (p := l0.length) (N := 3) (by decide) (by rw [pkL_length]; omega)
  have hn : nmN (pkL l) l0.length 3 = k := get_back (m := ricL (folds W zs (W * H)) k ++ m) (by rw [e]; simp only [List.append_assoc]) (by omega)
  have h3 : ((3 : Nat) : Int) = 3 := rfl
  rw [h3] at g1 g2 g3
  unfold rdFr
  rw [g1, g2, g3, if_pos rfl, hn]
  have := rdS_back (l := l) (l0 := l0 ++ bsOf k 3) (m := m) (W := W) (zs := zs) (n := W * H) (by omega) hk7 hz hb (by rw [e]; simp only [List.append_assoc]) (W * H) 0 (by omega)
  rw [List.length_append, bsOf_length] at this
  have h0 : (ricL (folds W zs 0) k).length = 0 := by simp [folds, ricL]
  rw [h0, Nat.add_zero, List.take_zero] at this
  rw [this, List.length_append, bsOf_length]
  simp only [Prod.mk.injEq, true_and]
  omega
theorem enB_part {L : List Fr} {i : Nat} (h : i < L.length) : ∃ m, enB L = enB (L.take i) ++ frBits (frAt L i) ++ m := by
  refine ⟨enB (L.drop (i + 1)), ?_⟩
  have e : L = L.take i ++ [frAt L i] ++ L.drop (i + 1) := by
    have h2 : L.take i ++ [frAt L i] = L.take (i + 1) := by rw [List.take_add_one, frAt_get h]; rfl
    rw [h2, List.take_append_drop]
  conv => lhs; rw [e]
  simp [enB]
theorem dcL_back {L : List Fr} {W H : Nat} (hm : mayAll L) (hw : ∀ q, q < L.length → (frAt L q).1 = (W : Int) ∧ (frAt L q).2.1 = (H : Int)) :
    ∀ f i, i + f = L.length → dcL (pkL (enB L)) W H f (L.take i) (enB (L.take i)).length = (none, L, (enB L).length)
  | 0, i, hi => by
    rw [List.take_of_length_le (by omega)]
    rfl
  | f + 1, i, hi => by
    obtain ⟨m, he⟩ := enB_part (L := L) (i := i) (by omega)
    obtain ⟨w1, w2⟩ := hw i (by omega)
    have hmi := hm i (by omega)
    have hf : frAt L i = ((W : Int), (H : Int), (frAt L i).2.2) := by rw [← w1, ← w2]
    rw [w1, w2] at hmi
    rw [hf] at he
    have hr := rdFr_back hmi he
    simp only [dcL]
    rw [hr]
    simp only [if_true]
    have hsn : L.take i ++ [((W : Int), (H : Int), (frAt L i).2.2)] = L.take (i + 1) := by
      rw [← hf, List.take_add_one, frAt_get (by omega)]
      rfl
    have hpos : (enB (L.take i)).length + (frBits ((W : Int), (H : Int), (frAt L i).2.2)).length = (enB (L.take (i + 1))).length := by
      rw [← hsn, enB_snoc, List.length_append]
    rw [hsn, hpos]
    exact dcL_back hm hw f (i + 1) (by omega)
theorem sidesN {L : List Fr} (hm : mayAll L) (ha : alike L) (h0 : 0 < L.length) : ∃ W H : Nat, (frAt L 0).1 = 8 * (W : Int) ∧ (frAt L 0).2.1 = 8 * (H : Int) ∧ (1 ≤ W ∧ W ≤ 4) ∧ (1 ≤ H ∧ H ≤ 4) ∧ (∀ q, q < L.length → (frAt L q).1 = ((8 * W : Nat) : Int) ∧ (frAt L q).2.1 = ((8 * H : Nat) : Int)) ∧ enBytes L = [75, 83, W, H, L.length] ++ pkL (enB L) := by
  have h := hm 0 h0
  have hW := sideB_true h.1
  have hH := sideB_true h.2.1
  refine ⟨(frAt L 0).1.toNat / 8, (frAt L 0).2.1.toNat / 8, by omega, by omega, by omega, by omega, fun q hq => ?_, rfl⟩
  obtain ⟨a1, a2⟩ := ha q hq
  rw [a1, a2]
  omega
theorem hdC_en {W H n : Nat} {ys : List Nat} (hW : 1 ≤ W ∧ W ≤ 4) (hH : 1 ≤ H ∧ H ≤ 4) (hn : 1 ≤ n ∧ n ≤ 16) : hdC ([75, 83, W, H, n] ++ ys) = 0 := by
  unfold hdC
  rw [if_neg (by simp), if_neg (by simp), if_neg]
  simp only [List.cons_append, List.nil_append, List.getD_cons_succ, List.getD_cons_zero]
  omega
theorem dcR_head {W H n : Nat} {ys : List Nat} (hW : 1 ≤ W ∧ W ≤ 4) (hH : 1 ≤ H ∧ H ≤ 4) (hn : 1 ≤ n ∧ n ≤ 16) : dcR ([75, 83, W, H, n] ++ ys) = dcE ys n (dcL ys (8 * W) (8 * H) n [] 0) := by
  unfold dcR
  rw [if_pos (hdC_en hW hH hn)]
  rfl
theorem endF_back (l : List Bool) : endF (pkL l) l.length = none := by
  unfold endF
  rw [end_back, if_pos rfl, if_neg]
  rw [pkL_length]
  unfold alD
  omega
/-- what was written is read -/
theorem dcR_back {L : List Fr} (hc : ckF L = none) : dcR (enBytes L) = (none, L) := by
  obtain ⟨h0, hm, ha, h16⟩ := ckF_none hc
  obtain ⟨W, H, -, -, hW, hH, hq, hE⟩ := sidesN hm ha h0
  have hb := dcL_back hm hq L.length 0 (by omega)
  rw [List.take_zero, show (enB []).length = 0 from rfl] at hb
  rw [hE, dcR_head hW hH ⟨h0, h16⟩, hb]
  unfold dcE
  rw [if_pos rfl, if_pos (endF_back _)]
/-- over more bytes -/
theorem btN_app {bs ms : List Nat} {p : Nat} (h : p < 8 * bs.length) : btN (bs ++ ms) p = btN bs p := by
  unfold btN
  rw [List.getD, List.getD, List.getElem?_append_left (by omega)]
theorem nmN_app {bs ms : List Nat} {p : Nat} : ∀ {k : Nat}, p + k ≤ 8 * bs.length → nmN (bs ++ ms) p k = nmN bs p k := by
  intro k h
  rw [nmN_nmF, nmN_nmF]
  exact nmF_congr fun i hi => btN_app (by omega)
theorem alF_app {bs ms : List Nat} {p : Nat} : ∀ {k : Nat}, p + k ≤ 8 * bs.length → alF (bs ++ ms) p k = alF bs p k
  | 0, _ => rfl
  | k + 1, h => by
    simp only [alF]
    rw [alF_app (k := k) (by omega), btN_app (by omega)]
theorem rgG_app {bs ms : List Nat} {p q : Nat} {k most v : Int} (hp : p ≤ 8 * bs.length) (h : rgG bs p k most = (none, v, q)) : rgG (bs ++ ms) p k most = (none, v, q) := by
  obtain ⟨hk, V, rfl, h1, h2, h3, h4, h5⟩ := rgG_code hp h
  rw [h4]
  refine rgG_of hk ?_ h1 h2
  obtain ⟨r1, r2⟩ := h3
  refine ⟨?_, by rw [List.length_append]; omega⟩
  rw [riL_length] at r2
  split at r1
  · rename_i h24
    rw [if_pos h24] at r2 ⊢
    rw [nmN_app (by omega), btN_app (by omega), nmN_app (by omega)]
    exact r1
  · rename_i h24
    rw [if_neg h24] at r2 ⊢
    rw [nmN_app (by omega), nmN_app (by omega)]
    exact r1
theorem rdS_app {bs ms : List Nat} {k : Int} {W : Nat} : ∀ {f : Nat} {zs : List Int} {p : Nat}, p ≤ 8 * bs.length → (rdS bs k W f zs p).1 = none → rdS (bs ++ ms) k W f zs p = rdS bs k W f zs p
  | 0, _, _, _, _ => rfl
  | f + 1, zs, p, hp, h => by
    have hq := rgG_le (k := k) (most := 510) hp
    simp only [rdS] at h ⊢
    split at h
    · rename_i h1
      have e : rgG (bs ++ ms) p k 510 = rgG bs p k 510 := by
        obtain ⟨R, hR⟩ : ∃ R, rgG bs p k 510 = R := ⟨_, rfl⟩
        obtain ⟨a, b, c⟩ := R
        rw [hR] at h1
        obtain rfl : a = none := h1
        rw [hR]
        exact rgG_app hp hR
      rw [e, if_pos h1, if_pos h1]
      split at h
      · rename_i h2
        rw [if_pos h2, if_pos h2]
        exact rdS_app hq h
      · cases h
    · rename_i h1
      exact absurd h h1
theorem rdF_app {bs ms : List Nat} {p : Nat} {n : Nat} (h : rdF bs p n = none) (hn : n ≤ 32) : p + n ≤ 8 * bs.length ∨ n = 0 := by
  unfold rdF at h
  rw [if_pos (by omega)] at h
  split at h
  · omega
  · cases h
theorem rdFr_app {bs ms : List Nat} {W H p : Nat} (hp : p ≤ 8 * bs.length) (h : (rdFr bs W H p).1 = none) : rdFr (bs ++ ms) W H p = rdFr bs W H p := by
  unfold rdFr at h ⊢
  split at h
  · rename_i h1
    have hl : p + 3 ≤ 8 * bs.length := by
      have := rdF_app (ms := ms) (n := 3) h1 (by decide)
      omega
    obtain ⟨g1, g2, g3⟩ := rd_good (bs := bs) (p := p) (N := 3) (by decide) (by omega)
    obtain ⟨k1, k2, k3⟩ := rd_good (bs := bs ++ ms) (p := p) (N := 3) (by decide) (by rw [List.length_append]; omega)
    have h3 : ((3 : Nat) : Int) = 3 := rfl
    rw [h3] at g1 g2 g3 k1 k2 k3
    rw [k1, k2, k3, g1, g2, g3, if_pos rfl, if_pos rfl, nmN_app hl]
    rw [g2, g3] at h
    exact rdS_app hl h
  · rename_i h1
    exact absurd h h1
theorem dcL_app {bs ms : List Nat} {W H : Nat} : ∀ {f : Nat} {L : List Fr} {p : Nat}, p ≤ 8 * bs.length → (dcL bs W H f L p).1 = none → dcL (bs ++ ms) W H f L p = dcL bs W H f L p
  | 0, _, _, _, _ => rfl
  | f + 1, L, p, hp, h => by
    simp only [dcL] at h ⊢
    split at h
    · rename_i h1
      have e := rdFr_app (ms := ms) hp h1
      rw [e, if_pos h1, if_pos h1]
      exact dcL_app (rdFr_le hp) h
    · rename_i h1
      exfalso
      cases hf : (rdFr bs W H p).1 with
      | none => exact h1 hf
      | some a => rw [hf] at h; cases h
theorem inF_ne {i : Int} {f : Fall} (h : f ≠ none) : inF i f ≠ none := by
  cases f with
  | none => exact absurd rfl h
  | some a => simp [inF]
/-- cut off -/
theorem dcR_cut {L : List Fr} (hc : ckF L = none) {c : Nat} (h : c < (enBytes L).length) : (dcR ((enBytes L).take c)).1 ≠ none := by
  obtain ⟨h0, hm, ha, h16⟩ := ckF_none hc
  obtain ⟨W, H, -, -, hW, hH, hq, hE⟩ := sidesN hm ha h0
  rw [hE] at h ⊢
  by_cases h5 : c < 5
  · have h1 : hdC (([75, 83, W, H, L.length] ++ pkL (enB L)).take c) = 1 := by
      unfold hdC
      rw [if_pos (by rw [List.length_take]; omega)]
    unfold dcR
    rw [h1, if_neg (by decide)]
    simp
  · obtain ⟨d, rfl⟩ : ∃ d, c = 5 + d := ⟨c - 5, by omega⟩
    have ht : ([75, 83, W, H, L.length] ++ pkL (enB L)).take (5 + d) = [75, 83, W, H, L.length] ++ (pkL (enB L)).take d := by
      rw [List.take_append, List.take_of_length_le (by simp only [List.length_cons, List.length_nil]; omega)]
      simp
    have hd : d < (pkL (enB L)).length := by
      rw [List.length_append] at h
      simp only [List.length_cons, List.length_nil] at h
      omega
    rw [ht, dcR_head hW hH ⟨h0, h16⟩]
    have hb := dcL_back hm hq L.length 0 (by omega)
    rw [List.take_zero, show (enB []).length = 0 from rfl] at hb
    intro hn
    unfold dcE at hn
    split at hn
    · rename_i h1
      have e := dcL_app (ms := (pkL (enB L)).drop d) (Nat.zero_le _) h1
      rw [List.take_append_drop, hb] at e
      have hle := dcL_le (bs := (pkL (enB L)).take d) (W := 8 * W) (H := 8 * H) (f := L.length) (L := []) (p := 0) (Nat.zero_le _)
      rw [← e] at hle
      have : (enB L).length ≤ 8 * ((pkL (enB L)).take d).length := hle
      rw [List.length_take] at this
      have := pkL_length (enB L)
      omega
    · rename_i h1
      exact h1 hn
/-- with one more -/
theorem dcR_more {L : List Fr} (hc : ckF L = none) (x : Nat) : (dcR (enBytes L ++ [x])).1 ≠ none := by
  obtain ⟨h0, hm, ha, h16⟩ := ckF_none hc
  obtain ⟨W, H, -, -, hW, hH, hq, hE⟩ := sidesN hm ha h0
  have hb := dcL_back hm hq L.length 0 (by omega)
  rw [List.take_zero, show (enB []).length = 0 from rfl] at hb
  rw [hE, List.append_assoc, dcR_head hW hH ⟨h0, h16⟩]
  have e := dcL_app (ms := [x]) (bs := pkL (enB L)) (Nat.zero_le _) (by rw [hb])
  rw [e, hb]
  have hend : endF (pkL (enB L) ++ [x]) (enB L).length = some ([], 5) := by
    unfold endF
    have hl : (enB L).length + alD (enB L).length = 8 * (pkL (enB L)).length := by
      rw [pkL_length]
      unfold alD
      omega
    rw [alF_app (by omega), end_back, if_pos rfl, if_pos (by rw [List.length_append]; simp only [List.length_cons, List.length_nil]; omega)]
  unfold dcE
  rw [if_pos rfl, hend, if_neg (by simp)]
  show inF _ (some ([], 5)) ≠ none
  exact inF_ne (by simp)
end Go.Proofs.YtgohlhgapboijaaGreatDoor

/- How many bits a frame takes at the most; frames one by one (plain). -/
namespace Go.Proofs.YtgohlhgapboijaaGreatDoor
set_option linter.unusedVariables false
set_option linter.unusedSimpArgs false
open Go.RowKit Go.Extern.Stop Go.Stop Go.Extern

theorem lsK_min (l : List Int) : ∀ j, (∀ i, i < j → (lsK l j).2 ≤ szF l i) ∧ (0 < j → (lsK l j).2 = szF l (lsK l j).1)
  | 0 => ⟨fun i h => absurd h (Nat.not_lt_zero _), fun h => absurd h (Nat.lt_irrefl _)⟩
  | j + 1 => by
    obtain ⟨h1, h2⟩ := lsK_min l j
    simp only [lsK]
    split
    · rename_i h
      refine ⟨fun i hi => ?_, fun _ => rfl⟩
      by_cases e : i = j
      · subst e
        exact Int.le_refl _
      · have h3 := h1 i (by omega)
        have h4 : szF l j < (lsK l j).2 := by
          rcases h with h | h
          · omega
          · exact h
        show szF l j ≤ szF l i
        omega
    · rename_i h
      rw [not_or] at h
      refine ⟨fun i hi => ?_, fun _ => h2 (by omega)⟩
      by_cases e : i = j
      · subst e
        omega
      · exact h1 i (by omega)
theorem ricL_sz {l : List Int} {k : Nat} (hk : k ≤ 15) (h : ∀ v ∈ l, 0 ≤ v ∧ v ≤ 510) : ((ricL l k).length : Int) = szF l k := by
  induction l with
  | nil => simp [ricL, szF]
  | cons a t ih =>
    have ha := h a (List.mem_cons_self ..)
    have hs := (szRi_yes (v := a) (k := (k : Int)) (by unfold riOk; omega)).1
    rw [Int.toNat_natCast] at hs
    have e : szF (a :: t) k = szRi a (k : Int) + szF t k := by simp [szF]
    rw [ricL_cons, List.length_append, e, hs, ← ih fun v hv => h v (List.mem_cons_of_mem _ hv)]
    simp
theorem szF_seven {l : List Int} (h : ∀ v ∈ l, 0 ≤ v ∧ v ≤ 510) : szF l 7 ≤ 11 * l.length := by
  induction l with
  | nil => simp [szF]
  | cons a t ih =>
    have ha := h a (List.mem_cons_self ..)
    have hs := (szRi_yes (v := a) (k := ((7 : Nat) : Int)) (by unfold riOk; omega)).1
    rw [Int.toNat_natCast, riL_length, if_pos (by omega)] at hs
    have e : szF (a :: t) 7 = szRi a ((7 : Nat) : Int) + szF t 7 := by simp [szF]
    have := ih fun v hv => h v (List.mem_cons_of_mem _ hv)
    rw [e, hs, List.length_cons]
    omega
theorem best_le {l : List Int} (h : ∀ v ∈ l, 0 ≤ v ∧ v ≤ 510) : (ricL l (bestK l)).length ≤ 11 * l.length := by
  obtain ⟨h1, h2⟩ := lsK_min l 8
  have h3 := h1 7 (by decide)
  have h4 := szF_seven h
  have h5 := ricL_sz (k := bestK l) (by have := bestK_le l; omega) h
  rw [h2 (by decide)] at h3
  have h6 : szF l (bestK l) ≤ szF l 7 := h3
  omega
theorem folds_in {W n : Nat} {zs : List Int} (hb : Byt zs) : ∀ v ∈ folds W zs n, 0 ≤ v ∧ v ≤ 510 := fun v hv => by
  unfold folds at hv
  obtain ⟨i, -, rfl⟩ := List.mem_map.1 hv
  exact (fldV_ok hb i).1
theorem frBits_few {f : Fr} (hb : Byt f.2.2) (h : f.2.2.length ≤ 1024) : 3 ≤ (frBits f).length ∧ (frBits f).length ≤ 11267 := by
  unfold frBits frB
  have h1 := best_le (folds_in (W := f.1.toNat) (n := f.2.2.length) hb)
  rw [folds_len] at h1
  rw [List.length_append, bsOf_length]
  omega
theorem enB_few {L : List Fr} (hm : mayAll L) (i : Nat) (hi : i ≤ L.length) : (enB (L.take i)).length ≤ 11267 * i := by
  induction i with
  | zero => simp [enB]
  | succ i ih =>
    have h := hm i (by omega)
    have ha := may_area h
    have hz : (frAt L i).2.2.length ≤ 1024 := by have := h.2.2.1; omega
    have e : L.take (i + 1) = L.take i ++ [frAt L i] := by rw [List.take_add_one, frAt_get (by omega)]; rfl
    rw [e, enB_snoc, List.length_append]
    have := (frBits_few (byt_of_may h) hz).2
    have := ih (by omega)
    omega
/-- frames one by one -/
theorem ck_one {L : List Fr} (hm : mayAll L) {i : Nat} (hi : i < L.length) : ckF [frAt L i] = none := by
  unfold ckF
  rw [if_neg (by simp), if_neg, if_neg, if_neg (by simp)]
  · intro h
    apply h
    intro q hq
    have : q = 0 := by simp only [List.length_cons, List.length_nil] at hq; omega
    subst this
    exact ⟨rfl, rfl⟩
  · intro h
    apply h
    intro q hq
    have : q = 0 := by simp only [List.length_cons, List.length_nil] at hq; omega
    subst this
    exact hm i hi
theorem en_one (f : Fr) : (enBytes [f]).length = 5 + ((frBits f).length + 7) / 8 := by
  unfold enBytes
  rw [List.length_append, pkL_length]
  simp [enB]
theorem en_len (L : List Fr) : (enBytes L).length = 5 + ((enB L).length + 7) / 8 := by
  unfold enBytes
  rw [List.length_append, pkL_length]
  simp
def sumB (L : List Fr) : Nat → Nat
  | 0 => 0
  | i + 1 => sumB L i + ((frBits (frAt L i)).length + 7) / 8
theorem sumB_is {L : List Fr} {i : Nat} (hi : i ≤ L.length) : (enB (L.take i)).length ≤ 8 * sumB L i ∧ 8 * sumB L i ≤ (enB (L.take i)).length + 7 * i := by
  induction i with
  | zero => simp [enB, sumB]
  | succ i ih =>
    have e : L.take (i + 1) = L.take i ++ [frAt L i] := by rw [List.take_add_one, frAt_get (by omega)]; rfl
    have := ih (by omega)
    rw [e, enB_snoc, List.length_append]
    simp only [sumB]
    omega
theorem sumB_all (L : List Fr) : (enBytes L).length ≤ 5 + sumB L L.length ∧ 5 + sumB L L.length ≤ (enBytes L).length + L.length := by
  have h := sumB_is (L := L) (Nat.le_refl _)
  rw [List.take_of_length_le (Nat.le_refl _)] at h
  rw [en_len]
  omega
end Go.Proofs.YtgohlhgapboijaaGreatDoor
