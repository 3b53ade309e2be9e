/- Contracts of this seat: Sur, Sus, Sut. -/
import Derived.Test.YtgohlhgapboijaaGreatDoorZl
import Derived.Test.YtgohlhgapboijaaGreatDoorZn
import Derived.Test.YtgohlhgapboijaaGreatDoorZo
import Derived.Test.YtgohlhgapboijaaGreatDoorZf
import Derived.Test.YtgohlhgapboijaaGreatDoorZc
/- Reading a frame (plain). -/
namespace Go.Proofs.YtgohlhgapboijaaGreatDoor
set_option linter.unusedVariables false
set_option linter.unusedSimpArgs false
open Go.RowKit Go.Extern.Stop Go.Stop Go.Extern

/-- the guess at place i of a frame that is W wide, from the samples ahead -/
def gsI (W : Nat) (zs : List Int) (i : Nat) : Int := gsV (W : Int) zs (i % W) (i / W) (i / W * W)
/-- the samples of a frame, read one by one: why not, the samples, where the reader stands -/
def rdS (bs : List Nat) (k : Int) (W : Nat) : Nat → List Int → Nat → Fall × List Int × Nat
  | 0, zs, p => (none, zs, p)
  | f + 1, zs, p =>
    if (rgG bs p k 510).1 = none then
      (if gsI W zs zs.length + unfoldI (rgG bs p k 510).2.1 = clipI (gsI W zs zs.length + unfoldI (rgG bs p k 510).2.1) then rdS bs k W f (zs ++ [gsI W zs zs.length + unfoldI (rgG bs p k 510).2.1]) (rgG bs p k 510).2.2
       else (some ([], 3), [], (rgG bs p k 510).2.2))
    else ((rgG bs p k 510).1, [], (rgG bs p k 510).2.2)
/-- a frame, read -/
def rdFr (bs : List Nat) (W H : Nat) (p : Nat) : Fall × List Int × Nat :=
  if rdF bs p 3 = none then rdS bs (rdV bs p 3) W (W * H) [] (rdP bs p 3) else (rdF bs p 3, [], rdP bs p 3)
theorem getD_pad {zs : List Int} {m j : Nat} (h : j < zs.length) : (zs ++ List.replicate m 0).getD j 0 = zs.getD j 0 := by
  rw [List.getD, List.getD, List.getElem?_append_left h]
theorem gsV_pad {W : Int} {zs : List Int} {x y A m : Nat} (hl : A + x = zs.length) (hW : 1 ≤ W) (hA : y ≠ 0 → W ≤ (A : Int)) (h0 : y = 0 → A = 0) : gsV W (zs ++ List.replicate m 0) x y A = gsV W zs x y A := by
  unfold gsV
  by_cases hy : y = 0
  · rw [if_pos hy, if_pos hy]
    have := h0 hy
    by_cases hx : x = 0
    · rw [if_pos hx, if_pos hx]
    · rw [if_neg hx, if_neg hx, getD_pad (by omega)]
  · rw [if_neg hy, if_neg hy]
    have := hA hy
    by_cases hx : x = 0
    · rw [if_pos hx, if_pos hx, getD_pad (by omega)]
    · rw [if_neg hx, if_neg hx, getD_pad (by omega), getD_pad (by omega), getD_pad (by omega)]
theorem byt_pad {zs : List Int} (h : Byt zs) (m : Nat) : Byt (zs ++ List.replicate m 0) := fun j => by
  by_cases hj : j < zs.length
  · rw [getD_pad hj]
    exact h j
  · rw [List.getD, List.getElem?_append_right (by omega)]
    by_cases hm : j - zs.length < m
    · rw [List.getElem?_replicate, if_pos hm]
      simp
    · rw [List.getElem?_replicate, if_neg hm]
      simp
theorem byt_snoc {zs : List Int} (h : Byt zs) {v : Int} (hv : 0 ≤ v ∧ v ≤ 255) : Byt (zs ++ [v]) := fun j => by
  by_cases hj : j < zs.length
  · rw [List.getD, List.getElem?_append_left hj]
    exact h j
  · rw [List.getD, List.getElem?_append_right (by omega)]
    by_cases he : j - zs.length = 0
    · rw [he]
      simpa using hv
    · rw [List.getElem?_eq_none (by simp; omega)]
      simp
theorem byt_nil : Byt [] := fun j => by simp
theorem pad_set {zs : List Int} {m : Nat} (v : Int) : (zs ++ List.replicate (m + 1) 0).set zs.length v = zs ++ [v] ++ List.replicate m 0 := by
  rw [List.set_append, if_neg (by omega), Nat.sub_self, List.replicate_succ, List.set_cons_zero, List.append_assoc]
  rfl
theorem clip_same {v : Int} (h : v = clipI v) : 0 ≤ v ∧ v ≤ 255 := by unfold clipI at h; omega
/-- the reader stands within its bytes -/
theorem rdS_le {bs : List Nat} {k : Int} {W : Nat} : ∀ {f : Nat} {zs : List Int} {p : Nat}, p ≤ 8 * bs.length → (rdS bs k W f zs p).2.2 ≤ 8 * bs.length
  | 0, _, _, h => h
  | f + 1, zs, p, h => by
    have hq := rgG_le (k := k) (most := 510) h
    simp only [rdS]
    split
    · split
      · exact rdS_le hq
      · exact hq
    · exact hq
theorem rdS_len {bs : List Nat} {k : Int} {W : Nat} : ∀ {f : Nat} {zs : List Int} {p : Nat}, (rdS bs k W f zs p).1 = none → (rdS bs k W f zs p).2.1.length = zs.length + f
  | 0, _, _, _ => rfl
  | f + 1, zs, p, h => by
    simp only [rdS] at h ⊢
    split at h
    · rename_i h1
      rw [if_pos h1]
      split at h
      · rename_i h2
        rw [if_pos h2, rdS_len h, List.length_append]
        simp only [List.length_cons, List.length_nil]
        omega
      · cases h
    · rename_i h1
      exact absurd h h1
theorem rdS_byt {bs : List Nat} {k : Int} {W : Nat} : ∀ {f : Nat} {zs : List Int} {p : Nat}, Byt zs → Byt (rdS bs k W f zs p).2.1
  | 0, _, _, h => h
  | f + 1, zs, p, h => by
    simp only [rdS]
    split
    · split
      · rename_i h2
        exact rdS_byt (byt_snoc h (clip_same h2))
      · exact byt_nil
    · exact byt_nil
end Go.Proofs.YtgohlhgapboijaaGreatDoor

/- The state of source.readFrame: what stays. -/
namespace Go.Proofs.YtgohlhgapboijaaGreatDoor
set_option linter.unusedVariables false
set_option linter.unusedSimpArgs false
open Go.RowKit Go.Extern.Stop Go.Stop Go.Extern

theorem own_kp {w w' : World} {b base n s : Nat} {e : TypeId} {v : Value} {xs : List Value} (h : w.ownsRow base e s v n xs) (k : Kp b w w') (hb : ∀ g, v.ownBlock = some g → g ≠ b) : w'.ownsRow base e s v n xs := by
  obtain ⟨h1, h2⟩ := h
  refine ⟨h1, ?_⟩
  rcases h2 with h2 | ⟨g, cap, cur, hv, hg, hh, r⟩
  · exact .inl h2
  · refine .inr ⟨g, cap, cur, hv, hg, ?_, r⟩
    rw [k.block (Array.getElem?_eq_some_iff.1 hh).1 (hb g (by rw [hv]; rfl))]
    exact hh
/-- the row that is being filled: the samples so far, then zeros -/
def padV (n : Nat) (zs : List Int) : List Value := (zs ++ List.replicate (n - zs.length) 0).map (Value.int .i64)
theorem padV_set {n : Nat} {zs : List Int} (h : zs.length < n) (v : Int) : (padV n zs).set zs.length (.int .i64 v) = padV n (zs ++ [v]) := by
  obtain ⟨m, hm⟩ : ∃ m, n - zs.length = m + 1 := ⟨n - zs.length - 1, by omega⟩
  have h2 : n - (zs ++ [v]).length = m := by rw [List.length_append]; simp only [List.length_cons, List.length_nil]; omega
  unfold padV
  rw [hm, h2, ← List.map_set, pad_set]
theorem padV_full {n : Nat} {zs : List Int} (h : zs.length = n) : padV n zs = zs.map (Value.int .i64) := by
  unfold padV
  rw [show n - zs.length = 0 by omega]
  simp
theorem padV_zero (n : Nat) : padV n [] = List.replicate n (Value.int .i64 0) := by
  unfold padV
  simp
/-- the blocks of a reading: the reader b, the row G, the frame's box D, the result's box R -/
def RfAt (F : Nat → Prop) (w0 wr : World) (b : Nat) (bs : List Nat) (W H : Int) (n G D : Nat) (zs : List Int) (q : Nat) : Prop :=
  (RdAt F wr b bs q ∧ q ≤ 8 * bs.length) ∧ wr.ownsRow G 3 1 (.slice (some ⟨G, 0, none⟩) n n) n (padV n zs) ∧
    wr.heap[D]? = some (.cells #[.int .i64 W, .int .i64 H, .slice (some ⟨G, 0, none⟩) n n] 48 (0, 0)) ∧
    wr.heap[w0.heap.size]? = some (.cells #[.int .i64 0, .int .i64 0, .slice none 0 0] 48 (0, 0)) ∧ Kp b w0 wr ∧ Byt zs ∧ zs.length ≤ n
theorem RfAt.kp {F : Nat → Prop} {w0 wr w' : World} {b n G D q q' : Nat} {bs : List Nat} {W H : Int} {zs : List Int} (h : RfAt F w0 wr b bs W H n G D zs q) (k : Kp b wr w') (hr : RdAt F w' b bs q') (hq : q' ≤ 8 * bs.length) (hb : b < w0.heap.size) (hG : b ≠ G) (hD : b ≠ D) : RfAt F w0 w' b bs W H n G D zs q' := by
  obtain ⟨-, h2, h3, h4, h5, h6, h7⟩ := h
  refine ⟨⟨hr, hq⟩, own_kp h2 k (fun g hg => ?_), ?_, ?_, h5.trans k, h6, h7⟩
  · have : G = g := by simpa [Value.ownBlock] using hg
    omega
  · rw [k.block (Array.getElem?_eq_some_iff.1 h3).1 (Ne.symm hD)]
    exact h3
  · rw [k.block (Array.getElem?_eq_some_iff.1 h4).1 (by omega)]
    exact h4
theorem RfAt.ext {F : Nat → Prop} {w0 wr w' : World} {b n G D q : Nat} {bs : List Nat} {W H : Int} {zs : List Int} (h : RfAt F w0 wr b bs W H n G D zs q) (k : Ext wr w') : RfAt F w0 w' b bs W H n G D zs q := by
  obtain ⟨⟨h0, h1⟩, h2, h3, h4, h5, h6, h7⟩ := h
  refine ⟨⟨h0.ext k, h1⟩, own_ext h2 k, ?_, ?_, h5.ext k, h6, h7⟩
  · rw [k.block (Array.getElem?_eq_some_iff.1 h3).1]
    exact h3
  · rw [k.block (Array.getElem?_eq_some_iff.1 h4).1]
    exact h4
theorem RfAt.set {F : Nat → Prop} {w0 wr : World} {b n G D q : Nat} {bs : List Nat} {W H v : Int} {zs : List Int} (h : RfAt F w0 wr b bs W H n G D zs q) (hlt : zs.length < n) (hv : 0 ≤ v ∧ v ≤ 255) (hF : F G) (hb : b < w0.heap.size) (hG : w0.heap.size < G) (hD : D ≠ G) :
    RfAt F w0 (wr.setCell ⟨G, zs.length, none⟩ (.int .i64 v)) b bs W H n G D (zs ++ [v]) q := by
  obtain ⟨⟨h0, h1⟩, h2, h3, h4, h5, h6, h7⟩ := h
  have kG : Kp G wr (wr.setCell ⟨G, zs.length, none⟩ (.int .i64 v)) := (Kp.refl G wr).set _ _
  refine ⟨⟨h0.kp kG hF (by omega), h1⟩, ?_, ?_, ?_, h5.fresh15 (by omega) _ _, byt_snoc h6 hv, by rw [List.length_append]; simp only [List.length_cons, List.length_nil]; omega⟩
  · rw [← padV_set hlt]
    exact own2_set _ h2
  · rw [kG.block (Array.getElem?_eq_some_iff.1 h3).1 hD]
    exact h3
  · rw [kG.block (Array.getElem?_eq_some_iff.1 h4).1 (by omega)]
    exact h4
/-- the cells of the frame that is being filled -/
theorem RfAt.box {F : Nat → Prop} {w0 wr : World} {b n G D q : Nat} {bs : List Nat} {W H : Int} {zs : List Int} (h : RfAt F w0 wr b bs W H n G D zs q) :
    wr.cell? ⟨D, 0, none⟩ = some (.int .i64 W) ∧ wr.cell? ⟨D, 1, none⟩ = some (.int .i64 H) ∧ wr.cell? ⟨D, 2, none⟩ = some (.slice (some ⟨G, 0, none⟩) n n) := by
  obtain ⟨-, -, h3, -⟩ := h
  exact ⟨by rw [Lib.cell_of_heap h3]; rfl, by rw [Lib.cell_of_heap h3]; rfl, by rw [Lib.cell_of_heap h3]; rfl⟩
/-- the cells of the result, that may be written -/
theorem RfAt.res {F : Nat → Prop} {w0 wr : World} {b n G D q : Nat} {bs : List Nat} {W H : Int} {zs : List Int} (h : RfAt F w0 wr b bs W H n G D zs q) :
    (wr.cell? ⟨w0.heap.size, 0, none⟩ = some (.int .i64 0) ∧ wr.cell? ⟨w0.heap.size, 1, none⟩ = some (.int .i64 0) ∧ wr.cell? ⟨w0.heap.size, 2, none⟩ = some (.slice none 0 0)) ∧
      wr.frozen? ⟨w0.heap.size, 0, none⟩ = false ∧ wr.frozen? ⟨w0.heap.size, 1, none⟩ = false ∧ wr.frozen? ⟨w0.heap.size, 2, none⟩ = false := by
  obtain ⟨-, -, -, h4, -⟩ := h
  exact ⟨⟨by rw [Lib.cell_of_heap h4]; rfl, by rw [Lib.cell_of_heap h4]; rfl, by rw [Lib.cell_of_heap h4]; rfl⟩, Lib.frozen_of_heap h4 0, Lib.frozen_of_heap h4 1, Lib.frozen_of_heap h4 2⟩
/-- a cell of the row that may be written -/
theorem RfAt.cell {F : Nat → Prop} {w0 wr : World} {b n G D q : Nat} {bs : List Nat} {W H : Int} {zs : List Int} (h : RfAt F w0 wr b bs W H n G D zs q) (hlt : zs.length < n) :
    wr.cell? ⟨G, zs.length, none⟩ = some (.int .i64 0) ∧ wr.frozen? ⟨G, zs.length, none⟩ = false := by
  obtain ⟨-, h2, -⟩ := h
  refine own2_cell h2 ?_
  unfold padV
  rw [List.getElem?_map, List.getElem?_append_right (Nat.le_refl _), Nat.sub_self, List.getElem?_replicate, if_pos (by omega)]
  rfl
/-- the row as ints -/
theorem RfAt.ints {F : Nat → Prop} {w0 wr : World} {b n G D q : Nat} {bs : List Nat} {W H : Int} {zs : List Int} (h : RfAt F w0 wr b bs W H n G D zs q) (hn : n ≤ 1000000) :
    Ints wr (.slice (some ⟨G, 0, none⟩) n n) (zs ++ List.replicate (n - zs.length) 0) := by
  obtain ⟨-, h2, -, -, -, -, h7⟩ := h
  refine Ints.of_owns h2 ?_
  rw [List.length_append, List.length_replicate]
  omega
end Go.Proofs.YtgohlhgapboijaaGreatDoor

/- source.readFrame. -/
namespace Go.Proofs.YtgohlhgapboijaaGreatDoor
set_option linter.unusedVariables false
set_option linter.unusedSimpArgs false
open Go.RowKit Go.Extern.Stop Go.Stop Go.Extern

theorem rgG_code15 {bs : List Nat} {p : Nat} {k most v : Int} {q : Nat} (hp : p ≤ 8 * bs.length) (h : rgG bs p k most = (none, v, q)) : (0 ≤ k ∧ k ≤ 15) ∧ ∃ V : Nat, v = (V : Int) ∧ V ≤ 1073741824 ∧ v ≤ most ∧ RiIs bs p V k.toNat ∧ q = p + (riL V k.toNat).length ∧ q ≤ 8 * bs.length := by
  unfold rgG at h
  split at h
  · rename_i hk
    obtain ⟨V, rfl, h1, h2, h3, h4, h5⟩ := riE_code hp h
    exact ⟨hk, V, rfl, h1, h2, h3, h4, h5⟩
  · simp [range] at h
/-- what readFrame answers -/
def RfrPost (F : Nat → Prop) (w : World) (b : Nat) (bs : List Nat) (W H : Nat) (R : Fall × List Int × Nat) (e : Ending) (w' : World) : Prop :=
  ∃ fv x, e = .returned (.tuple #[fv, x]) ∧ Kp b w w' ∧ RdAt F w' b bs R.2.2 ∧ ErrIs w' R.1 x ∧
    (R.1 ≠ none → fv = .agg #[.int .i64 0, .int .i64 0, .slice none 0 0]) ∧
    (R.1 = none → ∃ g, w.heap.size ≤ g ∧ fv = .agg #[.int .i64 (W : Int), .int .i64 (H : Int), .slice (some ⟨g, 0, none⟩) (W * H) (W * H)] ∧ Ints w' (.slice (some ⟨g, 0, none⟩) (W * H) (W * H)) R.2.1 ∧ w'.ownsRow w.heap.size 3 1 (.slice (some ⟨g, 0, none⟩) (W * H) (W * H)) (W * H) (R.2.1.map (Value.int .i64)))
set_option maxHeartbeats 8000000 in
set_option maxRecDepth 100000 in
theorem rframe_any {F : Nat → Prop} (b p W H : Nat) (bs : List Nat) (w : World) (h : RdAt F w b bs p) (hp : p ≤ 8 * bs.length) (hW : 8 ≤ W ∧ W ≤ 32) (hH : 8 ≤ H ∧ H ≤ 32) (hF : ∀ g, w.heap.size ≤ g → F g) :
    Calls Tryz.prog 36 #[.pointer (some ⟨b, 0, none⟩), .int .i64 (W : Int), .int .i64 (H : Int)] w (RfrPost F w b bs W H (rdFr bs W H p)) := by
  obtain ⟨i0, hi, hz0, hz1, hz2⟩ := info_parts infoInt
  have U := Lib.hid (fun (W' : World) (x : Ext w W') => rdget_any b p 3 bs W' (h.ext x) hp)
  have E1 := Lib.hid ((Ext.refl w).alloc (.cells #[.int .i64 0, .int .i64 0, .slice none 0 0] 48))
  have hbw : b < w.heap.size := by
    obtain ⟨a, cap, hbox, -⟩ := h
    exact Ext.lt (p := ⟨b, 0, none⟩) hbox.1
  have HBL := Lib.hid (heap_alloc_new w (.cells #[.int .i64 0, .int .i64 0, .slice none 0 0] 48))
  have hWH : W * H ≤ 32 * 32 := Nat.mul_le_mul hW.2 hH.2
  obtain ⟨n, hn⟩ : ∃ n, W * H = n := ⟨_, rfl⟩
  have HNN := Lib.hid hn
  have mn : (W : Int) * (H : Int) = (n : Int) := by rw [← hn]; simp
  have mw : IntKind.i64.wrap (n : Int) = (n : Int) := by rw [IntKind.wrap_i64]; omega
  have HP := Lib.hid hp
  clear h hp
  go_enter Tryz.func36, Tryz.ntmps36
  go_wp2_with fail
  refine (U.out _ E1.out).mono ?_; rintro e w2 ⟨x, rfl, hk, hr, he⟩
  cases hf : rdF bs p 3 with
  | some fc =>
    rw [hf] at he
    obtain ⟨tx, vx, rfl⟩ := ErrIs.ne he
    have hsz1 : (w.alloc (.cells #[.int .i64 0, .int .i64 0, .slice none 0 0] 48)).heap.size = w.heap.size + 1 := by simp
    have hR2 : w2.heap[w.heap.size]? = some (.cells #[.int .i64 0, .int .i64 0, .slice none 0 0] 48 (0, 0)) := by
      rw [hk.block (by rw [hsz1]; exact Nat.lt_succ_self _) (by omega)]
      exact HBL.out
    have HRES : Hid ((w2.cell? ⟨w.heap.size, 0, none⟩ = some (.int .i64 0) ∧ w2.cell? ⟨w.heap.size, 1, none⟩ = some (.int .i64 0) ∧ w2.cell? ⟨w.heap.size, 2, none⟩ = some (.slice none 0 0)) ∧ w2.frozen? ⟨w.heap.size, 0, none⟩ = false ∧ w2.frozen? ⟨w.heap.size, 1, none⟩ = false ∧ w2.frozen? ⟨w.heap.size, 2, none⟩ = false) :=
      ⟨⟨by rw [Lib.cell_of_heap hR2]; rfl, by rw [Lib.cell_of_heap hR2]; rfl, by rw [Lib.cell_of_heap hR2]; rfl⟩, Lib.frozen_of_heap hR2 0, Lib.frozen_of_heap hR2 1, Lib.frozen_of_heap hR2 2⟩
    have HQz : Hid (rdFr bs W H p = (some fc, [], rdP bs p 3)) := by show _ = _; unfold rdFr; rw [if_neg (by rw [hf]; simp), hf]
    have HKP := Lib.hid ((Kp.of_ext (b := b) E1.out).trans hk)
    have HRD := Lib.hid hr
    have HEz : Hid (∀ w', Kp w.heap.size w2 w' → w2.cell? ⟨w.heap.size, 0, none⟩ = some (.int .i64 0) → ErrIs w' (some fc) (.iface tx vx)) := fun _ k h0 => ⟨IsErr.kpi15 k h0 he.1, he.2⟩
    clear hk hr he hf hR2 hsz1 U E1 HBL hn
    generalize w2 = wz at *
    obtain ⟨⟨z0, z1, z2⟩, f0, f1, f2⟩ := HRES.out
    have HZ0 := Lib.hid z0
    go_wp2
    have y2 : (((wz.setCell ⟨w.heap.size, 0, none⟩ (.int .i64 0)).setCell ⟨w.heap.size, 1, none⟩ (.int .i64 0)).setCell ⟨w.heap.size, 2, none⟩ (.slice none 0 0)).cell? ⟨w.heap.size, 2, none⟩ = some (.slice none 0 0) :=
      World.cell?_setCell_same _ _ _ (by rw [cell_off_ne _ (by decide), cell_off_ne _ (by decide)]; exact z2)
    have y1 : (((wz.setCell ⟨w.heap.size, 0, none⟩ (.int .i64 0)).setCell ⟨w.heap.size, 1, none⟩ (.int .i64 0)).setCell ⟨w.heap.size, 2, none⟩ (.slice none 0 0)).cell? ⟨w.heap.size, 1, none⟩ = some (.int .i64 0) := by
      rw [cell_off_ne _ (by decide)]
      exact World.cell?_setCell_same _ _ _ (by rw [cell_off_ne _ (by decide)]; exact z1)
    have y0 : (((wz.setCell ⟨w.heap.size, 0, none⟩ (.int .i64 0)).setCell ⟨w.heap.size, 1, none⟩ (.int .i64 0)).setCell ⟨w.heap.size, 2, none⟩ (.slice none 0 0)).cell? ⟨w.heap.size, 0, none⟩ = some (.int .i64 0) := by
      rw [cell_off_ne _ (by decide), cell_off_ne _ (by decide)]
      exact World.cell?_setCell_same _ _ _ z0
    have kR : Kp w.heap.size wz (((wz.setCell ⟨w.heap.size, 0, none⟩ (.int .i64 0)).setCell ⟨w.heap.size, 1, none⟩ (.int .i64 0)).setCell ⟨w.heap.size, 2, none⟩ (.slice none 0 0)) := (((Kp.refl w.heap.size wz).set 0 _).set 1 _).set 2 _
    exact bodyPost_ret (v := .tuple #[.agg #[.int .i64 0, .int .i64 0, .slice none 0 0], .iface tx vx]) (by simp [results, Tryz.results36, go_sem, y0, y1, y2]) rfl
      ⟨_, _, rfl, ((HKP.out.fresh15 (Nat.le_refl _) 0 _).fresh15 (Nat.le_refl _) 1 _).fresh15 (Nat.le_refl _) 2 _, by rw [HQz.out]; exact HRD.out.kp kR (hF _ (Nat.le_refl _)) (by omega), by rw [HQz.out]; exact HEz.out _ kR HZ0.out, fun _ => rfl, fun hh => by rw [HQz.out] at hh; cases hh⟩
  | none =>
    rw [hf] at he
    have hx : x = .nilIface := he
    subst hx
    go_wp2_with (at_make; refine wpList_make_full _ rfl _ _ 46 rfl w2.heap.size 3 i0 (.int .i64 0) 1 Tryz.underlying46 hi hz0 hz1 .i64 .i64 _ _ n rfl rfl rfl rfl (by rw [hz2]; omega) (by unfold maxLen; omega) (Nat.le_refl _) ?_)
    intro w3 o3 hg3
    have hx3 : Ext w2 w3 := Below.grown (Below.refl _ _) hg3 (Nat.le_refl _) (fun k hk => by cases hk)
    have hsz1 : (w.alloc (.cells #[.int .i64 0, .int .i64 0, .slice none 0 0] 48)).heap.size = w.heap.size + 1 := by simp
    have hsz2 : w.heap.size + 1 ≤ w2.heap.size := by rw [← hsz1]; exact hk.size
    have hmade : (madeCells #[Value.int .i64 0] n).toList = padV n [] := by
      rw [padV_zero]
      apply List.ext_getElem?
      intro j
      by_cases hj : j < n <;> simp [madeCells, hj, Nat.mod_one]
    rw [hmade] at o3
    have hR2 : w2.heap[w.heap.size]? = some (.cells #[.int .i64 0, .int .i64 0, .slice none 0 0] 48 (0, 0)) := by
      rw [hk.block (by rw [hsz1]; exact Nat.lt_succ_self _) (by omega)]
      exact HBL.out
    have hG3 : w2.heap.size < w3.heap.size := by
      obtain ⟨-, hc | ⟨g, cap, cur, hv, hg, hh, -⟩⟩ := o3
      · cases hc.1
      · have := (Array.getElem?_eq_some_iff.1 hh).1
        simp only [Value.slice.injEq, Option.some.injEq, Addr.mk.injEq] at hv
        omega
    have HRF : Hid (RfAt F w (w3.alloc (.cells #[.int .i64 (W : Int), .int .i64 (H : Int), .slice (some ⟨w2.heap.size, 0, none⟩) n n] 48)) b bs (W : Int) (H : Int) n w2.heap.size w3.heap.size [] (rdP bs p 3)) := by
      refine ⟨⟨(hr.ext hx3).ext ((Ext.refl w3).alloc _), ?_⟩, own_ext o3 ((Ext.refl w3).alloc _), heap_alloc_new w3 _, ?_, ((Kp.of_ext (b := b) E1.out).trans hk).ext (hx3.trans ((Ext.refl w3).alloc _)), byt_nil, Nat.zero_le _⟩
      · exact rdP_le HP.out
      · rw [(hx3.trans ((Ext.refl w3).alloc (.cells #[.int .i64 (W : Int), .int .i64 (H : Int), .slice (some ⟨w2.heap.size, 0, none⟩) n n] 48))).block (Array.getElem?_eq_some_iff.1 hR2).1]
        exact hR2
    have hbG : b ≠ w2.heap.size := by omega
    have hwG : w.heap.size < w2.heap.size := by omega
    have hbD : b ≠ w3.heap.size := by omega
    have hDG : w3.heap.size ≠ w2.heap.size := by omega
    have HR0 : Hid (rdFr bs W H p = rdS bs (rdV bs p 3) W n [] (rdP bs p 3)) := by show _ = _; unfold rdFr; rw [if_pos hf, HNN.out]
    clear hk hr hf he o3 hg3 hx3 hsz1 hsz2 hmade hR2 hG3 U E1 HBL
    obtain ⟨D, hD⟩ : ∃ D, w3.heap.size = D := ⟨_, rfl⟩
    have HDD := Lib.hid hD
    rw [hD] at HRF hbD hDG
    clear hD
    generalize w2.heap.size = G at *
    generalize rdV bs p 3 = K at *
    generalize rdP bs p 3 = q0 at *
    go_wp2_with fail
    rw [HDD.out]
    go_loopw [33] (fun iv wr => ∃ (y A q : Nat) (zs : List Int), y ≤ H ∧ iv = .int .i64 (y : Int) ∧ Hid (y * W = A) ∧ Hid (zs.length = A) ∧ Hid (RfAt F w wr b bs (W : Int) (H : Int) n G D zs q) ∧ Hid (rdS bs K W (n - A) zs q = rdS bs K W n [] q0)) (fun iv _ => H - (intOf iv).toNat)
    case atStart => exact ⟨0, 0, q0, [], Nat.zero_le _, rfl, by show _ = _; omega, rfl, HRF, rfl⟩
    case round =>
      obtain ⟨y, A, q, zs, hy, rfl, HA, HZ, HRf, HQ⟩ := hrel
      by_cases hlt : y < H
      · have t1 : (y : Int) < (H : Int) := by omega
        go_wp2_with fail
        go_loopw [37] (fun jv wr => ∃ (x q : Nat) (zs : List Int), x ≤ W ∧ jv = .int .i64 (x : Int) ∧ Hid (zs.length = A + x) ∧ Hid (RfAt F w wr b bs (W : Int) (H : Int) n G D zs q) ∧ Hid (rdS bs K W (n - (A + x)) zs q = rdS bs K W n [] q0)) (fun jv _ => W - (intOf jv).toNat)
        case atStart => exact ⟨0, q, zs, Nat.zero_le _, rfl, HZ, HRf, HQ⟩
        case round =>
          clear HZ HRf HQ
          obtain ⟨x, q, zs, hx, rfl, HZ, HRf, HQ⟩ := hrel
          by_cases hxt : x < W
          · have t2 : (x : Int) < (W : Int) := by omega
            have hle : A + x < n := by
              have h1 : (y + 1) * W ≤ H * W := Nat.mul_le_mul_right W hlt
              have h2 : (y + 1) * W = A + W := by rw [Nat.add_mul, HA.out]; omega
              have h3 : n = H * W := by rw [← HNN.out, Nat.mul_comm]
              omega
            have UR := Lib.hid (getri_any b q K 510 bs wr HRf.out.1.1 HRf.out.1.2)
            go_wp2_with fail
            refine UR.out.mono ?_; rintro e w5 ⟨x5, rfl, hk5, hr5, he5⟩
            by_cases hN : (rgG bs q K 510).1 = none
            · rw [hN] at he5
              have hx5 : x5 = .nilIface := he5
              subst hx5
              have HRf5 := Lib.hid (HRf.out.kp hk5 hr5 (rgG_le HRf.out.1.2) hbw hbG hbD)
              obtain ⟨c0, c1, c2⟩ := HRf5.out.box
              clear hk5 hr5 he5 UR
              have hcode := rgG_code15 (v := (rgG bs q K 510).2.1) (q := (rgG bs q K 510).2.2) HRf.out.1.2 (by rw [← hN])
              obtain ⟨-, V, hV, -, hV5, -⟩ := hcode
              have HSN : Hid (rdS bs K W (n - (A + x)) zs q = if gsI W zs zs.length + unfoldI (rgG bs q K 510).2.1 = clipI (gsI W zs zs.length + unfoldI (rgG bs q K 510).2.1) then rdS bs K W (n - (A + (x + 1))) (zs ++ [gsI W zs zs.length + unfoldI (rgG bs q K 510).2.1]) (rgG bs q K 510).2.2 else (some ([], 3), [], (rgG bs q K 510).2.2)) := by
                show _ = _
                obtain ⟨m, hm⟩ : ∃ m, n - (A + x) = m + 1 := ⟨n - (A + x) - 1, by omega⟩
                rw [hm, show n - (A + (x + 1)) = m by omega]
                simp only [rdS]
                rw [if_pos hN]
              have hu9 : 0 ≤ (rgG bs q K 510).2.1 ∧ (rgG bs q K 510).2.1 ≤ 510 := by omega
              generalize (rgG bs q K 510).2.2 = q5 at *
              generalize (rgG bs q K 510).2.1 = u at *
              have hA : (y : Int) * (W : Int) = (A : Int) := by rw [← HA.out]; simp
              have hg : gsV (W : Int) (zs ++ List.replicate (n - zs.length) 0) x y A = gsI W zs zs.length := by
                rw [gsV_pad (by rw [HZ.out]) (by omega) (fun h0 => by have : 1 * W ≤ y * W := Nat.mul_le_mul_right W (by omega); have := HA.out; omega) (fun h0 => by have := HA.out; rw [h0] at this; omega)]
                unfold gsI
                have e1 : (A + x) % W = x := by rw [← HA.out, Nat.add_comm, Nat.add_mul_mod_self_right, Nat.mod_eq_of_lt hxt]
                have e2 : (A + x) / W = y := by rw [← HA.out, Nat.add_comm, Nat.add_mul_div_right _ _ (by omega), Nat.div_eq_of_lt hxt, Nat.zero_add]
                rw [HZ.out, e1, e2, HA.out]
              have hgb := gsV_bound (W := (W : Int)) (zs := zs ++ List.replicate (n - zs.length) 0) (byt_pad HRf5.out.2.2.2.2.2.1 _) x y A
              rw [hg] at hgb
              have UG := Lib.hid (guess_any (W : Int) (H : Int) x y A n (zs ++ List.replicate (n - zs.length) 0) (some ⟨G, 0, none⟩) n w5 (HRf5.out.ints (by omega)) (byt_pad HRf5.out.2.2.2.2.2.1 _) (by omega) hA t2 (by omega) (by omega) (by omega))
              rw [hg] at UG
              have hub : -256 ≤ unfoldI u ∧ unfoldI u ≤ 256 := by unfold unfoldI; rw [if_neg (by omega)]; split <;> omega
              generalize gsI W zs zs.length = g0 at *
              clear hg hV hV5 hN
              go_wp2_with fail
              refine UG.out.mono ?_; rintro e w6 ⟨rfl, x6⟩
              have HRf6 := Lib.hid (HRf5.out.ext x6)
              clear x6 UG c0 c1 c2
              go_wp2_with fail
              refine (unfold_any u _).mono ?_; rintro e w7 ⟨rfl, rfl⟩
              generalize unfoldI u = du at *
              have mv : IntKind.i64.wrap (g0 + du) = g0 + du := by rw [IntKind.wrap_i64]; omega
              go_wp2_with fail
              refine (clip_any _ _).mono ?_; rintro e w7 ⟨rfl, rfl⟩
              obtain ⟨v, hv⟩ : ∃ v, g0 + du = v := ⟨_, rfl⟩
              rw [hv] at HSN mv ⊢
              by_cases hc : v = clipI v
              · have e1 : (v != clipI v) = false := by simpa using hc
                have HQ2 : Hid (rdS bs K W (n - (A + (x + 1))) (zs ++ [v]) q5 = rdS bs K W n [] q0) := by
                  show _ = _
                  have h := HSN.out
                  rw [if_pos hc, HQ.out] at h
                  exact h.symm
                have hlt2 : zs.length < n := by rw [HZ.out]; exact hle
                have HRf7 := Lib.hid (HRf6.out.set (v := v) hlt2 (clip_same hc) (hF G (by omega)) hbw hwG hDG)
                obtain ⟨r0, r1⟩ := HRf6.out.cell hlt2
                obtain ⟨c0, c1, c2⟩ := HRf6.out.box
                have HZ2 : Hid ((zs ++ [v]).length = A + (x + 1)) := by show _ = _; rw [List.length_append, HZ.out]; rfl
                rw [HZ.out] at r0 r1 HRf7
                obtain ⟨P, hP⟩ : ∃ P, A + x = P := ⟨_, rfl⟩
                rw [hP] at r0 r1 HRf7 hle
                have mA : IntKind.i64.wrap (A : Int) = (A : Int) := by rw [IntKind.wrap_i64]; omega
                have mP : IntKind.i64.wrap ((A : Int) + (x : Int)) = (P : Int) := by rw [IntKind.wrap_i64]; omega
                have t3 : (0 : Int) ≤ (P : Int) := by omega
                have t4 : (P : Int) < (n : Int) := by omega
                clear hc hv HSN
                go_wp2_with fail
                exact ⟨⟨x + 1, q5, zs ++ [v], by omega, by go_num, HZ2, HRf7, HQ2⟩, by simp [intOf]; omega⟩
              · have e1 : (v != clipI v) = true := by simpa using hc
                have HQz : Hid (rdFr bs W H p = (some ([], 3), [], q5)) := by
                  show _ = _
                  have h := HSN.out
                  rw [if_neg hc, HQ.out] at h
                  rw [HR0.out, h]
                have HRES := Lib.hid HRf6.out.res
                have HKP := Lib.hid HRf6.out.2.2.2.2.1
                have HRD := Lib.hid HRf6.out.1.1
                have HEz : Hid (∀ w', Kp w.heap.size w6 w' → w6.cell? ⟨w.heap.size, 0, none⟩ = some (.int .i64 0) → ErrIs w' (some ([], 3)) (.iface 31 (.int .i64 3))) := fun _ _ _ => ErrIs.code (by decide)
                clear hc hv HSN
                generalize w6 = wz at *
                obtain ⟨⟨z0, z1, z2⟩, f0, f1, f2⟩ := HRES.out
                have HZ0 := Lib.hid z0
                go_wp2
                have y2 : (((wz.setCell ⟨w.heap.size, 0, none⟩ (.int .i64 0)).setCell ⟨w.heap.size, 1, none⟩ (.int .i64 0)).setCell ⟨w.heap.size, 2, none⟩ (.slice none 0 0)).cell? ⟨w.heap.size, 2, none⟩ = some (.slice none 0 0) :=
                  World.cell?_setCell_same _ _ _ (by rw [cell_off_ne _ (by decide), cell_off_ne _ (by decide)]; exact z2)
                have y1 : (((wz.setCell ⟨w.heap.size, 0, none⟩ (.int .i64 0)).setCell ⟨w.heap.size, 1, none⟩ (.int .i64 0)).setCell ⟨w.heap.size, 2, none⟩ (.slice none 0 0)).cell? ⟨w.heap.size, 1, none⟩ = some (.int .i64 0) := by
                  rw [cell_off_ne _ (by decide)]
                  exact World.cell?_setCell_same _ _ _ (by rw [cell_off_ne _ (by decide)]; exact z1)
                have y0 : (((wz.setCell ⟨w.heap.size, 0, none⟩ (.int .i64 0)).setCell ⟨w.heap.size, 1, none⟩ (.int .i64 0)).setCell ⟨w.heap.size, 2, none⟩ (.slice none 0 0)).cell? ⟨w.heap.size, 0, none⟩ = some (.int .i64 0) := by
                  rw [cell_off_ne _ (by decide), cell_off_ne _ (by decide)]
                  exact World.cell?_setCell_same _ _ _ z0
                have kR : Kp w.heap.size wz (((wz.setCell ⟨w.heap.size, 0, none⟩ (.int .i64 0)).setCell ⟨w.heap.size, 1, none⟩ (.int .i64 0)).setCell ⟨w.heap.size, 2, none⟩ (.slice none 0 0)) := (((Kp.refl w.heap.size wz).set 0 _).set 1 _).set 2 _
                exact bodyPost_ret (v := .tuple #[.agg #[.int .i64 0, .int .i64 0, .slice none 0 0], .iface 31 (.int .i64 3)]) (by simp [results, Tryz.results36, go_sem, y0, y1, y2]) rfl
                  ⟨_, _, rfl, ((HKP.out.fresh15 (Nat.le_refl _) 0 _).fresh15 (Nat.le_refl _) 1 _).fresh15 (Nat.le_refl _) 2 _, by rw [HQz.out]; exact HRD.out.kp kR (hF _ (Nat.le_refl _)) (by omega), by rw [HQz.out]; exact HEz.out _ kR HZ0.out, fun _ => rfl, fun hh => by rw [HQz.out] at hh; cases hh⟩
            · obtain ⟨fc, hfc⟩ : ∃ fc, (rgG bs q K 510).1 = some fc := by
                cases h : (rgG bs q K 510).1 with
                | none => exact absurd h hN
                | some fc => exact ⟨fc, rfl⟩
              have hq5 := rgG_le (k := K) (most := 510) HRf.out.1.2
              have HRf5 := Lib.hid (HRf.out.kp hk5 hr5 hq5 hbw hbG hbD)
              have HQz : Hid (rdFr bs W H p = (some fc, [], (rgG bs q K 510).2.2)) := by
                show _ = _
                obtain ⟨m, hm⟩ : ∃ m, n - (A + x) = m + 1 := ⟨n - (A + x) - 1, by omega⟩
                have h := HQ.out
                rw [hm] at h
                simp only [rdS] at h
                rw [if_neg hN, hfc] at h
                rw [HR0.out, ← h]
              rw [hfc] at he5
              obtain ⟨tx, vx, rfl⟩ := ErrIs.ne he5
              have HRES := Lib.hid HRf5.out.res
              have HKP := Lib.hid HRf5.out.2.2.2.2.1
              have HRD := Lib.hid HRf5.out.1.1
              have HEz : Hid (∀ w', Kp w.heap.size w5 w' → w5.cell? ⟨w.heap.size, 0, none⟩ = some (.int .i64 0) → ErrIs w' (some fc) (.iface tx vx)) := fun _ k h0 => ⟨IsErr.kpi15 k h0 he5.1, he5.2⟩
              clear hN hfc hk5 hr5 he5 UR
              generalize w5 = wz at *
              obtain ⟨⟨z0, z1, z2⟩, f0, f1, f2⟩ := HRES.out
              have HZ0 := Lib.hid z0
              go_wp2
              have y2 : (((wz.setCell ⟨w.heap.size, 0, none⟩ (.int .i64 0)).setCell ⟨w.heap.size, 1, none⟩ (.int .i64 0)).setCell ⟨w.heap.size, 2, none⟩ (.slice none 0 0)).cell? ⟨w.heap.size, 2, none⟩ = some (.slice none 0 0) :=
                World.cell?_setCell_same _ _ _ (by rw [cell_off_ne _ (by decide), cell_off_ne _ (by decide)]; exact z2)
              have y1 : (((wz.setCell ⟨w.heap.size, 0, none⟩ (.int .i64 0)).setCell ⟨w.heap.size, 1, none⟩ (.int .i64 0)).setCell ⟨w.heap.size, 2, none⟩ (.slice none 0 0)).cell? ⟨w.heap.size, 1, none⟩ = some (.int .i64 0) := by
                rw [cell_off_ne _ (by decide)]
                exact World.cell?_setCell_same _ _ _ (by rw [cell_off_ne _ (by decide)]; exact z1)
              have y0 : (((wz.setCell ⟨w.heap.size, 0, none⟩ (.int .i64 0)).setCell ⟨w.heap.size, 1, none⟩ (.int .i64 0)).setCell ⟨w.heap.size, 2, none⟩ (.slice none 0 0)).cell? ⟨w.heap.size, 0, none⟩ = some (.int .i64 0) := by
                rw [cell_off_ne _ (by decide), cell_off_ne _ (by decide)]
                exact World.cell?_setCell_same _ _ _ z0
              have kR : Kp w.heap.size wz (((wz.setCell ⟨w.heap.size, 0, none⟩ (.int .i64 0)).setCell ⟨w.heap.size, 1, none⟩ (.int .i64 0)).setCell ⟨w.heap.size, 2, none⟩ (.slice none 0 0)) := (((Kp.refl w.heap.size wz).set 0 _).set 1 _).set 2 _
              exact bodyPost_ret (v := .tuple #[.agg #[.int .i64 0, .int .i64 0, .slice none 0 0], .iface tx vx]) (by simp [results, Tryz.results36, go_sem, y0, y1, y2]) rfl
                ⟨_, _, rfl, ((HKP.out.fresh15 (Nat.le_refl _) 0 _).fresh15 (Nat.le_refl _) 1 _).fresh15 (Nat.le_refl _) 2 _, by rw [HQz.out]; exact HRD.out.kp kR (hF _ (Nat.le_refl _)) (by omega), by rw [HQz.out]; exact HEz.out _ kR HZ0.out, fun _ => rfl, fun hh => by rw [HQz.out] at hh; cases hh⟩
          · obtain rfl : x = W := by omega
            have t2 : ¬ (x : Int) < (x : Int) := by omega
            have HA1 : Hid ((y + 1) * x = A + x) := by show _ = _; rw [Nat.add_mul, HA.out]; omega
            go_wp2_with fail
            exact ⟨⟨y + 1, A + x, q, zs, by omega, by go_num, HA1, HZ, HRf, HQ⟩, by simp [intOf]; omega⟩
      · obtain rfl : y = H := by omega
        have t2 : ¬ (y : Int) < (y : Int) := by omega
        have hAn : A = n := by rw [← HA.out, ← HNN.out, Nat.mul_comm]
        have HQz : Hid (rdFr bs W y p = (none, zs, q)) := by
          show _ = _
          have h := HQ.out
          rw [show n - A = 0 by omega] at h
          rw [HR0.out, ← h]
          rfl
        have hzl : zs.length = n := by rw [HZ.out]; exact hAn
        obtain ⟨c0, c1, c2⟩ := HRf.out.box
        obtain ⟨⟨z0, z1, z2⟩, f0, f1, f2⟩ := HRf.out.res
        have HKP := Lib.hid HRf.out.2.2.2.2.1
        have kR : Kp w.heap.size wr (((wr.setCell ⟨w.heap.size, 0, none⟩ (.int .i64 (W : Int))).setCell ⟨w.heap.size, 1, none⟩ (.int .i64 (y : Int))).setCell ⟨w.heap.size, 2, none⟩ (.slice (some ⟨G, 0, none⟩) n n)) := (((Kp.refl w.heap.size wr).set 0 _).set 1 _).set 2 _
        have HRD := Lib.hid (HRf.out.1.1.kp kR (hF _ (Nat.le_refl _)) (by omega))
        have HON : Hid ((((wr.setCell ⟨w.heap.size, 0, none⟩ (.int .i64 (W : Int))).setCell ⟨w.heap.size, 1, none⟩ (.int .i64 (y : Int))).setCell ⟨w.heap.size, 2, none⟩ (.slice (some ⟨G, 0, none⟩) n n)).ownsRow w.heap.size 3 1 (.slice (some ⟨G, 0, none⟩) n n) n (zs.map (Value.int .i64))) := by
          have ho := own_kp HRf.out.2.1 kR (fun g hg => by
            have h9 : G = g := by simpa [Value.ownBlock] using hg
            omega)
          rw [padV_full hzl] at ho
          exact own_mono ho (by omega)
        have HIN : Hid (Ints (((wr.setCell ⟨w.heap.size, 0, none⟩ (.int .i64 (W : Int))).setCell ⟨w.heap.size, 1, none⟩ (.int .i64 (y : Int))).setCell ⟨w.heap.size, 2, none⟩ (.slice (some ⟨G, 0, none⟩) n n)) (.slice (some ⟨G, 0, none⟩) n n) zs) := Ints.of_owns HON.out (by omega)
        have HKR := Lib.hid kR
        clear kR hn
        go_wp2
        have y2 : (((wr.setCell ⟨w.heap.size, 0, none⟩ (.int .i64 (W : Int))).setCell ⟨w.heap.size, 1, none⟩ (.int .i64 (y : Int))).setCell ⟨w.heap.size, 2, none⟩ (.slice (some ⟨G, 0, none⟩) n n)).cell? ⟨w.heap.size, 2, none⟩ = some (.slice (some ⟨G, 0, none⟩) n n) :=
          World.cell?_setCell_same _ _ _ (by rw [cell_off_ne _ (by decide), cell_off_ne _ (by decide)]; exact z2)
        have y1 : (((wr.setCell ⟨w.heap.size, 0, none⟩ (.int .i64 (W : Int))).setCell ⟨w.heap.size, 1, none⟩ (.int .i64 (y : Int))).setCell ⟨w.heap.size, 2, none⟩ (.slice (some ⟨G, 0, none⟩) n n)).cell? ⟨w.heap.size, 1, none⟩ = some (.int .i64 (y : Int)) := by
          rw [cell_off_ne _ (by decide)]
          exact World.cell?_setCell_same _ _ _ (by rw [cell_off_ne _ (by decide)]; exact z1)
        have y0 : (((wr.setCell ⟨w.heap.size, 0, none⟩ (.int .i64 (W : Int))).setCell ⟨w.heap.size, 1, none⟩ (.int .i64 (y : Int))).setCell ⟨w.heap.size, 2, none⟩ (.slice (some ⟨G, 0, none⟩) n n)).cell? ⟨w.heap.size, 0, none⟩ = some (.int .i64 (W : Int)) := by
          rw [cell_off_ne _ (by decide), cell_off_ne _ (by decide)]
          exact World.cell?_setCell_same _ _ _ z0
        exact bodyPost_ret (v := .tuple #[.agg #[.int .i64 (W : Int), .int .i64 (y : Int), .slice (some ⟨G, 0, none⟩) n n], .nilIface]) (by simp [results, Tryz.results36, go_sem, y0, y1, y2]) rfl
          ⟨_, _, rfl, ((HKP.out.fresh15 (Nat.le_refl _) 0 _).fresh15 (Nat.le_refl _) 1 _).fresh15 (Nat.le_refl _) 2 _, by rw [HQz.out]; exact HRD.out, by (rw [HQz.out]; try rfl), fun hh => absurd (by rw [HQz.out]) hh, fun _ => ⟨G, by omega, by rw [HNN.out], by rw [HQz.out, HNN.out]; exact HIN.out, by rw [HQz.out, HNN.out]; exact HON.out⟩⟩
end Go.Proofs.YtgohlhgapboijaaGreatDoor
