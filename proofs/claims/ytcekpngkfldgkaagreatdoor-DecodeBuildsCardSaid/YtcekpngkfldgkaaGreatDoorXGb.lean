/- Contracts of this seat: PlN, RNew, Put, Put2, PutA, Get, PutB, ISmp, REd. -/
import Derived.Test.YtcekpngkfldgkaaGreatDoorXTk
import Derived.Test.YtcekpngkfldgkaaGreatDoorXGa
import Derived.Test.YtcekpngkfldgkaaGreatDoorXZb
import Derived.Deep.RegionLaw
import Derived.WalkSpells
namespace Go.Proofs.YtcekpngkfldgkaaGreatDoor
set_option linter.unusedVariables false
set_option linter.unusedSimpArgs false
open Go.RowKit Go.Extern.Stop Go.Stop Go.Extern
def NwPost (w : World) (W H : Int) (zs : List Int) (f : Fall) (e : Ending) (w' : World) : Prop := ∃ a n cap x, e = .returned (.tuple #[.agg #[.int .i64 W, .int .i64 H, .slice a n cap], x]) ∧ Ext w w' ∧ Ints w' (.slice a n cap) zs ∧ ErrIs w' f x
def newOk (W H v : Int) : Bool := sideB W && sideB H && smpB v
theorem new_size {W H : Int} (h : sideB W = true) (k : sideB H = true) : ∃ N : Nat, W * H = (N : Int) ∧ (N = 4 ∨ N = 8 ∨ N = 64 ∨ N = 128 ∨ N = 192 ∨ N = 256 ∨ N = 384 ∨ N = 512 ∨ N = 576 ∨ N = 768 ∨ N = 1024) := by
 refine ⟨(W * H).toNat, ?_, ?_⟩ <;> rcases sideB_cases h with rfl | rfl | rfl | rfl <;> rcases sideB_cases k with rfl | rfl | rfl | rfl <;> decide
set_option maxRecDepth 20000 in
set_option maxHeartbeats 2000000 in
theorem new_no (W H v : Int) (w : World) (h : newOk W H v = false) :
 Calls Tryz.prog 47 #[.int .i64 W, .int .i64 H, .int .i64 v] w (NwPost w 0 0 [] range) := by
 unfold newOk at h
 cases s1 : sideB W with
 | false =>
   clear h
   have F0 := FrAt.new w
   have A0 : Ext w (w.alloc (.cells #[.int .i64 0, .int .i64 0, .slice none 0 0] 24)) := (Ext.refl w).alloc _
   obtain ⟨⟨r0, r1, r2⟩, f0, f1, f2⟩ := F0
   go_enter Tryz.func47, Tryz.ntmps47
   go_wp2_with (first | (go_at_call 55; refine (side_any _ _).mono ?_; rintro e w' ⟨rfl, rfl⟩) | (go_at_call 56; refine (smp_any _ _).mono ?_; rintro e w' ⟨rfl, rfl⟩))
   exact bodyPost_ret (v := .tuple #[.agg #[.int .i64 0, .int .i64 0, .slice none 0 0], .iface 40 (.int .i64 3)]) (by simp [results, Tryz.results47, go_sem, r0, r1, r2]) rfl ⟨_, _, _, _, rfl, A0, Ints.nil _, ErrIs.code (by decide)⟩
 | true =>
   cases s2 : sideB H with
   | false =>
     clear h
     have F0 := FrAt.new w
     have A0 : Ext w (w.alloc (.cells #[.int .i64 0, .int .i64 0, .slice none 0 0] 24)) := (Ext.refl w).alloc _
     obtain ⟨⟨r0, r1, r2⟩, f0, f1, f2⟩ := F0
     go_enter Tryz.func47, Tryz.ntmps47
     go_wp2_with (first | (go_at_call 55; refine (side_any _ _).mono ?_; rintro e w' ⟨rfl, rfl⟩) | (go_at_call 56; refine (smp_any _ _).mono ?_; rintro e w' ⟨rfl, rfl⟩))
     exact bodyPost_ret (v := .tuple #[.agg #[.int .i64 0, .int .i64 0, .slice none 0 0], .iface 40 (.int .i64 3)]) (by simp [results, Tryz.results47, go_sem, r0, r1, r2]) rfl ⟨_, _, _, _, rfl, A0, Ints.nil _, ErrIs.code (by decide)⟩
   | true =>
     obtain s3 : smpB v = false := by rw [s1, s2] at h; simpa using h
     clear h
     have F0 := FrAt.new w
     have A0 : Ext w (w.alloc (.cells #[.int .i64 0, .int .i64 0, .slice none 0 0] 24)) := (Ext.refl w).alloc _
     obtain ⟨⟨r0, r1, r2⟩, f0, f1, f2⟩ := F0
     go_enter Tryz.func47, Tryz.ntmps47
     go_wp2_with (first | (go_at_call 55; refine (side_any _ _).mono ?_; rintro e w' ⟨rfl, rfl⟩) | (go_at_call 56; refine (smp_any _ _).mono ?_; rintro e w' ⟨rfl, rfl⟩))
     exact bodyPost_ret (v := .tuple #[.agg #[.int .i64 0, .int .i64 0, .slice none 0 0], .iface 40 (.int .i64 3)]) (by simp [results, Tryz.results47, go_sem, r0, r1, r2]) rfl ⟨_, _, _, _, rfl, A0, Ints.nil _, ErrIs.code (by decide)⟩
theorem frr_cells {w : World} {B C : Nat} (W H c : Int) (v l : Value) (hBC : B ≠ C) (h : w.cell? ⟨B, 0, none⟩ = some (.int .i64 0) ∧ w.cell? ⟨B, 1, none⟩ = some (.int .i64 0) ∧ w.cell? ⟨B, 2, none⟩ = some (.slice none 0 0)) (k0 : w.cell? ⟨C, 0, none⟩ = some (.int .i64 0)) (k1 : w.cell? ⟨C, 1, none⟩ = some (.slice none 0 0)) :
 (((((w.setCell ⟨B, 0, none⟩ (.int .i64 W)).setCell ⟨B, 1, none⟩ (.int .i64 H)).setCell ⟨B, 2, none⟩ v).setCell ⟨C, 0, none⟩ (.int .i64 c)).setCell ⟨C, 1, none⟩ l).cell? ⟨B, 0, none⟩ = some (.int .i64 W) ∧
 (((((w.setCell ⟨B, 0, none⟩ (.int .i64 W)).setCell ⟨B, 1, none⟩ (.int .i64 H)).setCell ⟨B, 2, none⟩ v).setCell ⟨C, 0, none⟩ (.int .i64 c)).setCell ⟨C, 1, none⟩ l).cell? ⟨B, 1, none⟩ = some (.int .i64 H) ∧
 (((((w.setCell ⟨B, 0, none⟩ (.int .i64 W)).setCell ⟨B, 1, none⟩ (.int .i64 H)).setCell ⟨B, 2, none⟩ v).setCell ⟨C, 0, none⟩ (.int .i64 c)).setCell ⟨C, 1, none⟩ l).cell? ⟨B, 2, none⟩ = some v ∧
 (((((w.setCell ⟨B, 0, none⟩ (.int .i64 W)).setCell ⟨B, 1, none⟩ (.int .i64 H)).setCell ⟨B, 2, none⟩ v).setCell ⟨C, 0, none⟩ (.int .i64 c)).setCell ⟨C, 1, none⟩ l).cell? ⟨C, 0, none⟩ = some (.int .i64 c) ∧
 (((((w.setCell ⟨B, 0, none⟩ (.int .i64 W)).setCell ⟨B, 1, none⟩ (.int .i64 H)).setCell ⟨B, 2, none⟩ v).setCell ⟨C, 0, none⟩ (.int .i64 c)).setCell ⟨C, 1, none⟩ l).cell? ⟨C, 1, none⟩ = some l := by
 obtain ⟨a0, a1, a2⟩ := fr_cells W H v h.1 h.2.1 h.2.2
 have o : ∀ (w : World) (i j : Nat) (x : Value), (w.setCell ⟨C, i, none⟩ x).cell? ⟨B, j, none⟩ = w.cell? ⟨B, j, none⟩ := fun w i j x => World.cell?_setCell_other w ⟨C, i, none⟩ ⟨B, j, none⟩ x (by simp [hBC, Ne.symm hBC])
 have o' : ∀ (w : World) (i j : Nat) (x : Value), (w.setCell ⟨B, i, none⟩ x).cell? ⟨C, j, none⟩ = w.cell? ⟨C, j, none⟩ := fun w i j x => World.cell?_setCell_other w ⟨B, i, none⟩ ⟨C, j, none⟩ x (by simp [hBC, Ne.symm hBC])
 obtain ⟨e0, e1⟩ := res_cells (c := c) (w := ((w.setCell ⟨B, 0, none⟩ (.int .i64 W)).setCell ⟨B, 1, none⟩ (.int .i64 H)).setCell ⟨B, 2, none⟩ v) (((o' _ _ _ _).trans ((o' _ _ _ _).trans (o' _ _ _ _))).trans k0) (((o' _ _ _ _).trans ((o' _ _ _ _).trans (o' _ _ _ _))).trans k1) l
 exact ⟨((o _ _ _ _).trans (o _ _ _ _)).trans a0, ((o _ _ _ _).trans (o _ _ _ _)).trans a1, ((o _ _ _ _).trans (o _ _ _ _)).trans a2, e0, e1⟩
def FrHas (w : World) (B : Nat) (W H : Int) (v : Value) : Prop := (w.cell? ⟨B, 0, none⟩ = some (.int .i64 W) ∧ w.cell? ⟨B, 1, none⟩ = some (.int .i64 H) ∧ w.cell? ⟨B, 2, none⟩ = some v) ∧ w.frozen? ⟨B, 0, none⟩ = false ∧ w.frozen? ⟨B, 1, none⟩ = false ∧ w.frozen? ⟨B, 2, none⟩ = false
theorem FrHas.new (w : World) (W H : Int) (v : Value) : FrHas (w.alloc (.cells #[.int .i64 W, .int .i64 H, v] 24)) w.heap.size W H v := by
 refine ⟨⟨by simp, by simp, by simp⟩, by simp, by simp, by simp⟩
theorem FrHas.under {w w' : World} {B D : Nat} {W H : Int} {v : Value} (h : FrHas w B W H v) (k : Below D w w') (hb : B < D) : FrHas w' B W H v := by
 obtain ⟨⟨h0, h1, h2⟩, f0, f1, f2⟩ := h
 exact ⟨⟨(Below.cell k (p := ⟨B, 0, none⟩) hb).trans h0, (Below.cell k (p := ⟨B, 1, none⟩) hb).trans h1, (Below.cell k (p := ⟨B, 2, none⟩) hb).trans h2⟩, (Below.frozen k (p := ⟨B, 0, none⟩) hb).trans f0, (Below.frozen k (p := ⟨B, 1, none⟩) hb).trans f1, (Below.frozen k (p := ⟨B, 2, none⟩) hb).trans f2⟩
theorem FrHas.ext {w w' : World} {B : Nat} {W H : Int} {v : Value} (h : FrHas w B W H v) (k : Ext w w') : FrHas w' B W H v := h.under k (Ext.lt h.1.1)
theorem row_setCell {w : World} {base n : Nat} {xs : List Value} {v : Value} (h : w.ownsRow base 3 1 v n xs) (b i : Nat) (hb : b < base) (u : Value) : (w.setCell ⟨b, i, none⟩ u).ownsRow base 3 1 v n xs := ownsRow_setCell_below h (a := ⟨b, i, none⟩) hb u
set_option maxRecDepth 20000 in
theorem clone_own (zs : List Int) (v : Value) (w : World) (ha : Ints w v zs) (hn0 : 0 < zs.length) (hl : zs.length ≤ 1000000) :
 Calls Tryz.prog 60 #[v] w fun e w' => ∃ g cap, e = .returned (.slice (some ⟨g, 0, none⟩) zs.length cap) ∧ w'.ownsRow w.heap.size 3 1 (.slice (some ⟨g, 0, none⟩) zs.length cap) zs.length (zs.map (Value.int .i64)) ∧ Ext w w' := by
 obtain ⟨i0, hi, hz0, hz1, hz2⟩ := info_parts infoInt
 obtain ⟨n, hn⟩ : ∃ n, n = zs.length := ⟨_, rfl⟩
 have E1 : Ext w (w.alloc (.cells #[] 3)) := (Ext.refl w).alloc _
 have hown : (w.alloc (.cells #[] 3)).ownsRow w.heap.size 3 1 (.slice (some ⟨w.heap.size, 0, none⟩) 0 0) 0 [] := World.ownsRow_made w #[] 0 (Nat.le_refl _) (Nat.zero_le _) rfl
 have fin : ∀ (v' : Value) (w' : World), w'.ownsRow w.heap.size 3 1 v' (0 + n) ([] ++ zs.map (Value.int .i64)) → (w.alloc (.cells #[] 3)).grownBy w' (some w.heap.size) → (∃ g cap, v' = .slice (some ⟨g, 0, none⟩) n cap ∧ w'.ownsRow w.heap.size 3 1 (.slice (some ⟨g, 0, none⟩) n cap) n (zs.map (Value.int .i64))) ∧ Ext w w' := fun v' w' h1 h2 => by
  refine ⟨?_, Below.grown E1 h2 (by simp) (fun k hk => by cases hk; exact Nat.le_refl _)⟩
  have h3 : w'.ownsRow w.heap.size 3 1 v' n (zs.map (Value.int .i64)) := by simpa using h1
  obtain ⟨hl, h⟩ := id h3
  rcases h with ⟨h4, h5⟩ | ⟨g, cap, cur, e, -⟩
  · omega
  · exact ⟨g, cap, e, e ▸ h3⟩
 have FIN := Lib.hid fin
 clear fin
 obtain ⟨g, off, cap, rfl, c1, c2⟩ := ha.addr hn0
 rw [← hn] at ha hl c1 ⊢
 have hnews := news_of_ints (ha.ext E1)
 have HN := Lib.hid hn
 have HW := Lib.hid hnews
 have r1 : ∀ W, (binOp .eql 22 (.slice (some ⟨g, off, none⟩) n cap) (.slice none 0 0)).run Tryz.prog W = .ok (.bool false) W := fun W => Lib.run_eql_slice_nil W _ _ _ n cap 0 0 Tryz.underlying22
 clear hn hnews hn0
 go_enter Tryz.func60, Tryz.ntmps60
 go_wp2_with (at_builtin; refine wpList_append_own _ rfl _ _ 22 rfl w.heap.size 3 i0 (.int .i64 0) 1 8 Tryz.underlying22 hi hz0 hz1 hz2 rfl (by decide) _ 0 [] rfl hown ⟨g, off, none⟩ n cap (zs.map (Value.int .i64)) rfl (by simp [HN.out]) HW.out (ints_one zs) (by unfold maxLen; omega) (by omega) (by simp) ?_; intro v' w' h1 h2 _)
 go_ret
 obtain ⟨⟨g', cap', rfl, h3⟩, h4⟩ := FIN.out _ _ h1 h2
 exact ⟨_, _, rfl, h3, h4⟩
def lies (W H x y n : Int) : Prop := 1 ≤ n ∧ n ≤ 8 ∧ 0 ≤ x ∧ x ≤ W - n ∧ 0 ≤ y ∧ y ≤ H - n
instance (W H x y n : Int) : Decidable (lies W H x y n) := by unfold lies; exact inferInstance
def putAns (W H : Int) (zs : List Int) (x y n : Int) (bs : List Int) : Fall :=
 if may W H zs then (if lies W H x y n then (if (bs.length : Int) = n * n then (if within 0 255 bs then none else range) else fit) else range) else form
def putRow (W : Int) (zs : List Int) (x y n : Int) (bs : List Int) : List Int := rowL zs.length (putK W.toNat x.toNat y.toNat n.toNat (n.toNat * n.toNat) (fun i => zs.getD i 0) (fun i => bs.getD i 0))
theorem putAns_none {W H : Int} {zs : List Int} {x y n : Int} {bs : List Int} (h : putAns W H zs x y n bs = none) : may W H zs ∧ lies W H x y n ∧ (bs.length : Int) = n * n ∧ within 0 255 bs := by
 unfold putAns at h
 split at h
 · rename_i h1
   split at h
   · rename_i h2
     split at h
     · rename_i h3
       split at h
       · rename_i h4
         exact ⟨h1, h2, h3, h4⟩
       · cases h
     · cases h
   · cases h
 · cases h
theorem Ints.capq {w : World} {a : Option Addr} {n cap : Nat} {zs : List Int} (h : Ints w (.slice a n cap) zs) (hn : 0 < n) : n ≤ cap := by
 have hl := h.len
 obtain ⟨g, off, c, e, c1, -⟩ := h.addr (by omega)
 simp only [Value.slice.injEq] at e
 omega
theorem own_cur {w : World} {base g n cap : Nat} {xs : List Value} (h : w.ownsRow base 3 1 (.slice (some ⟨g, 0, none⟩) n cap) n xs) :
 ∃ cur : List Value, w.heap[g]? = some (.cells cur.toArray 3 (0, 0)) ∧ cur.length = cap ∧ cur.take n = xs ∧ base ≤ g ∧ n ≤ cap ∧ cap ≤ maxLen := by
 obtain ⟨hl, h | ⟨g', cap', cur, e, hb, hg, h1, h2, hs, ht⟩⟩ := h
 · cases h.1
 · simp only [Value.slice.injEq, Option.some.injEq, Addr.mk.injEq, and_true, true_and] at e
   obtain ⟨rfl, rfl⟩ := e
   exact ⟨cur.toList, by simpa using hg, by simpa using hs, by simpa using ht, hb, h1, h2⟩
theorem cur_own {w : World} {base g n cap : Nat} {xs cur : List Value} (hg : w.heap[g]? = some (.cells cur.toArray 3 (0, 0))) (hl : cur.length = cap) (ht : cur.take n = xs) (hb : base ≤ g) (h1 : n ≤ cap) (h2 : cap ≤ maxLen) :
 w.ownsRow base 3 1 (.slice (some ⟨g, 0, none⟩) n cap) n xs := by
 have hx : xs.length = n := by rw [← ht, List.length_take]; omega
 exact ⟨by omega, Or.inr ⟨g, cap, cur.toArray, rfl, hb, hg, h1, h2, by simpa using hl, by simpa using ht⟩⟩
theorem take_splice {cur cs : List Value} {n off : Nat} (h : off + cs.length ≤ n) (hc : n ≤ cur.length) : (splice cur off cs).take n = splice (cur.take n) off cs := by
 unfold splice
 apply List.ext_getElem?
 intro i
 rw [List.getElem?_take]
 by_cases hi : i < n
 · rw [if_pos hi]
   by_cases h1 : i < off
   · rw [List.getElem?_append_left (by rw [List.length_take]; omega), List.getElem?_append_left (by rw [List.length_take, List.length_take]; omega), List.getElem?_take, List.getElem?_take, if_pos h1, if_pos h1, List.getElem?_take, if_pos hi]
   · have e1 : (cur.take off).length = off := by rw [List.length_take]; omega
     have e2 : ((cur.take n).take off).length = off := by rw [List.length_take, List.length_take]; omega
     have L : (cur.take off ++ (cs ++ cur.drop (off + cs.length)))[i]? = (cs ++ cur.drop (off + cs.length))[i - off]? := by rw [List.getElem?_append_right (by rw [e1]; omega), e1]
     have R : ((cur.take n).take off ++ (cs ++ (cur.take n).drop (off + cs.length)))[i]? = (cs ++ (cur.take n).drop (off + cs.length))[i - off]? := by rw [List.getElem?_append_right (by rw [e2]; omega), e2]
     rw [L, R]
     by_cases h2 : i - off < cs.length
     · rw [List.getElem?_append_left h2, List.getElem?_append_left h2]
     · have L2 : (cs ++ cur.drop (off + cs.length))[i - off]? = (cur.drop (off + cs.length))[i - off - cs.length]? := List.getElem?_append_right (by omega)
       have R2 : (cs ++ (cur.take n).drop (off + cs.length))[i - off]? = ((cur.take n).drop (off + cs.length))[i - off - cs.length]? := List.getElem?_append_right (by omega)
       rw [L2, R2, List.getElem?_drop, List.getElem?_drop, List.getElem?_take, if_pos (by omega)]
 · rw [if_neg hi, List.getElem?_eq_none]
   simp only [List.length_append, List.length_take, List.length_drop]
   omega
open Go.RowKit
def sqrV (W x y n : Int) (zs bs : List Int) (k : Nat) : Int := if inSq W.toNat x.toNat y.toNat n.toNat k then bs.getD (idxSq W.toNat x.toNat y.toNat n.toNat k) 0 else zs.getD k 0
theorem idx_lt {W X Y N k : Nat} (h : inSq W X Y N k) : idxSq W X Y N k < N * N := by
 obtain ⟨J, t, h1, h2, -, h4⟩ := sq_at h
 rw [h4]
 have := Nat.mul_le_mul_right N (show J + 1 ≤ N from h1)
 rw [Nat.succ_mul] at this
 omega
theorem putRow_len (W : Int) (zs : List Int) (x y n : Int) (bs : List Int) : (putRow W zs x y n bs).length = zs.length := rowL_length _ _
theorem putRow_get {W x y n : Int} {zs bs : List Int} {k : Nat} (hk : k < zs.length) : (putRow W zs x y n bs).getD k 0 = sqrV W x y n zs bs k := by
 unfold putRow sqrV
 rw [List.getD, rowL_get hk, Option.getD_some]
 unfold putK
 by_cases hs : inSq W.toNat x.toNat y.toNat n.toNat k
 · rw [if_pos ⟨hs, idx_lt hs⟩, if_pos hs]
 · rw [if_neg (fun e => hs e.1), if_neg hs]
theorem within_getD {lo hi : Int} {zs : List Int} (h : ∀ k, k < zs.length → lo ≤ zs.getD k 0 ∧ zs.getD k 0 ≤ hi) : within lo hi zs := within_of_gets fun j x hj hx => by
 have := h j hj
 rw [getD_of_get hx] at this
 exact this
theorem getD_within {lo hi : Int} {zs : List Int} (h : within lo hi zs) {k : Nat} (hk : k < zs.length) : lo ≤ zs.getD k 0 ∧ zs.getD k 0 ≤ hi := h.at (get_of_lt hk)
theorem put_may {W H x y n : Int} {zs bs : List Int} (h : putAns W H zs x y n bs = none) : may W H (putRow W zs x y n bs) := by
 obtain ⟨h1, h2, h3, h4⟩ := putAns_none h
 obtain ⟨m1, m2, m3, m4⟩ := h1
 obtain ⟨l1, l2, l3, l4, l5, l6⟩ := h2
 refine ⟨m1, m2, by rw [putRow_len]; exact m3, within_getD fun k hk => ?_⟩
 rw [putRow_len] at hk
 rw [putRow_get hk]
 unfold sqrV
 by_cases hs : inSq W.toNat x.toNat y.toNat n.toNat k
 · rw [if_pos hs]
   have h5 := idx_lt hs
   have h6 : ((n.toNat * n.toNat : Nat) : Int) = n * n := by push_cast; rw [Int.toNat_of_nonneg (by omega)]
   exact getD_within h4 (by omega)
 · rw [if_neg hs]
   exact getD_within m4 hk
theorem rowL_mem {N : Nat} {f : Nat → Int} {x : Int} (h : x ∈ rowL N f) : ∃ j, j < N ∧ x = f j := by
 unfold rowL at h
 obtain ⟨j, hj, rfl⟩ := List.mem_map.1 h
 exact ⟨j, List.mem_range.1 hj, rfl⟩
theorem clipI_bd (x : Int) : 0 ≤ clipI x ∧ clipI x ≤ 255 := by unfold clipI; omega
theorem meanOf_bd {ts ls : List Int} {c : Int} (h : chkAns ts ls c = none) : 0 ≤ meanOf ts ls ∧ meanOf ts ls ≤ 255 := by
 obtain ⟨h1, h2, h3, h4, h5⟩ := chkAns_none h
 have b := nbF_bound h3 h4 ts.length
 unfold meanOf
 rcases h1 with h1 | h1 <;> rw [h1] at b ⊢ <;> push_cast at b ⊢ <;> omega
theorem prdF_bd {m : Int} {ts ls : List Int} {c : Int} (h : chkAns ts ls c = none) (k : Nat) : 0 ≤ prdF m ts ls c k ∧ prdF m ts ls c k ≤ 255 := by
 obtain ⟨h1, h2, h3, h4, h5⟩ := chkAns_none h
 unfold prdF
 split
 · exact meanOf_bd h
 · split
   · exact h3 _
   · split
     · exact h4 _
     · exact clipI_bd _
theorem prdL_within {m : Int} {ts ls : List Int} {c : Int} (h : chkAns ts ls c = none) : within 0 255 (prdL m ts ls c) := fun x hx => by
 obtain ⟨j, _, rfl⟩ := rowL_mem hx
 exact prdF_bd h j
theorem prdL_len (m : Int) (ts ls : List Int) (c : Int) : (prdL m ts ls c).length = ts.length * ts.length := rowL_length _ _
def Apart (u v : Value) : Prop := ∀ b, u.ownBlock = some b → v.ownBlock ≠ some b
theorem Apart.symm {u v : Value} (h : Apart u v) : Apart v u := fun b h1 h2 => h b h2 h1
theorem push_two {W W' : World} {base n : Nat} {tv lv v' : Value} {xs : List Value} (hl : W.ownsRow base 3 1 lv n xs) (ap : Apart tv lv) (g : W.grownBy W' tv.ownBlock) (hv : v'.ownBlock = tv.ownBlock ∨ v'.ownBlock = some (W.heap.size + 1)) :
 W'.ownsRow base 3 1 lv n xs ∧ Apart v' lv := by
 refine ⟨own_grownBy hl g ?_, fun b h1 h2 => ?_⟩
 · cases hb : lv.ownBlock with
   | none => exact Or.inl rfl
   | some b => exact Or.inr (fun e => ap b e.symm hb)
 · rcases hv with hv | hv
   · exact ap b (hv.symm.trans h1) h2
   · have e : b = W.heap.size + 1 := Option.some.inj (h1.symm.trans hv)
     have := (hl.lt b h2).2
     omega
theorem rowL_se (k : Nat) (f : Nat → Int) : (rowL (k + 1) f).map (Value.int .i64) = (rowL k f).map (Value.int .i64) ++ [.int .i64 (f k)] := by
 unfold rowL
 rw [List.range_succ, List.map_append, List.map_append]
 rfl
theorem grown_below {W W' : World} {base n : Nat} {tv : Value} {xs : List Value} (ht : W.ownsRow base 3 1 tv n xs) (g : W.grownBy W' tv.ownBlock) (hb : base ≤ W.heap.size) : Below base W W' :=
 Below.grown (Below.refl base W) g hb (fun k hk => (ht.lt k hk).1)
def topF (W : Int) (zs : List Int) (x y : Int) (i : Nat) : Int := placeF W zs (x + i) (y - 1)
def leftF (W : Int) (zs : List Int) (x y : Int) (i : Nat) : Int := placeF W zs (x - 1) (y + i)
set_option maxHeartbeats 2000000 in
set_option maxRecDepth 20000 in
theorem redges_4 (W H x y : Int) (zs : List Int) (a : Option Addr) (n cap : Nat) (w : World) (h : Ints w (.slice a n cap) zs) (hm : may W H zs) (hx : 0 ≤ x ∧ x ≤ W - 4) (hy : 0 ≤ y ∧ y ≤ H - 4) :
 Calls Tryz.prog 103 #[.agg #[.int .i64 W, .int .i64 H, .slice a n cap], .int .i64 x, .int .i64 y, .int .i64 4] w fun e w' => ∃ u u', e = .returned (.tuple #[u, u', .int .i64 (placeF W zs (x - 1) (y - 1))]) ∧ Ext w w' ∧ Ints w' u (rowL 4 (topF W zs x y)) ∧ Ints w' u' (rowL 4 (leftF W zs x y)) := by
 have M1 := Lib.hid (fun W' k => rmay_any W H zs a n cap W' k)
 have HM := Lib.hid hm
 have b1 := sideB_true hm.1
 have b2 := sideB_true hm.2.1
 have hn : (n : Int) = W * H := by rw [h.len]; exact hm.2.2.1
 have L1 := Lib.hid (fun (W' : World) => lies_any W H x y 4 (.slice a n cap) a n cap W' rfl (by omega) (by omega) (by omega))
 have HL : Hid (liesB W H x y 4 = true) := by show _ = _; unfold liesB; simp; omega
 have S1 := Lib.hid (fun (W' : World) (x' y' : Int) (k : Ints W' (.slice a n cap) zs) (h1 : x' < W) (h2 : y' < H) => sample_any W H x' y' zs a n cap W' k (place_in b1.2.1 b2.2.1 hn h1 h2) (by omega))
 obtain ⟨hx1, hx2⟩ := hx
 obtain ⟨hy1, hy2⟩ := hy
 clear hm hn
 have e3 : IntKind.i64.wrap (x - 1) = x - 1 := by rw [IntKind.wrap_i64]; omega
 have e4 : IntKind.i64.wrap (y - 1) = y - 1 := by rw [IntKind.wrap_i64]; omega
 go_enter Tryz.func103, Tryz.ntmps103
 go_wp2_with fail
 refine (M1.out _ (h.ext (by repeat (first | exact Ext.refl _ | assumption | refine Ext.alloc ?_ _ | refine Ext.drew ?_ | refine Ext.drewN ?_ _ | refine Ext.setCell ?_ (by first | exact Nat.le_refl _ | (simp; done) | omega) _ | refine Ext.trans ?_ (by assumption))))).mono ?_; rintro e w3 ⟨rfl, hx3⟩
 rw [decide_eq_true HM.out]
 have p0 : w3.cell? ⟨w.heap.size, 0, none⟩ = some (.int .i64 W) := hx3.cell (by simp)
 have p1 : w3.cell? ⟨w.heap.size, 1, none⟩ = some (.int .i64 H) := hx3.cell (by simp)
 have p2 : w3.cell? ⟨w.heap.size, 2, none⟩ = some (.slice a n cap) := hx3.cell (by simp)
 have E3 : Ext w w3 := (by repeat (first | exact Ext.refl _ | assumption | refine Ext.alloc ?_ _ | refine Ext.drew ?_ | refine Ext.drewN ?_ _ | refine Ext.setCell ?_ (by first | exact Nat.le_refl _ | (simp; done) | omega) _ | refine Ext.trans ?_ (by assumption)))
 clear hx3
 go_wp2_with fail
 refine (L1.out _).mono ?_; rintro e w4 ⟨rfl, hx4⟩
 rw [HL.out]
 have P0 := hx4.cell p0
 have P1 := hx4.cell p1
 have P2 := hx4.cell p2
 have E4 : Ext w w4 := E3.trans hx4
 have hP : w.heap.size < w4.heap.size := Ext.lt P0
 clear hx4 p0 p1 p2 E3
 go_wp2_with fail
 go_loopw [11, 12, 13] (fun tv lv iv wr => ∃ k : Nat, k ≤ 4 ∧ iv = .int .i64 k ∧ Hid (wr.ownsRow w4.heap.size 3 1 tv k ((rowL k (topF W zs x y)).map (Value.int .i64)) ∧ wr.ownsRow w4.heap.size 3 1 lv k ((rowL k (leftF W zs x y)).map (Value.int .i64)) ∧ Apart tv lv) ∧ Ext w4 wr) (fun _ _ iv _ => 4 - (intOf iv).toNat)
 case atStart => exact ⟨0, Nat.zero_le _, rfl, ⟨⟨rfl, Or.inl ⟨rfl, rfl⟩⟩, ⟨rfl, Or.inl ⟨rfl, rfl⟩⟩, fun b hb => by cases hb⟩, Ext.refl _⟩
 case round =>
  obtain ⟨k, hk, rfl, HO, hE⟩ := hrel
  have Q0 := hE.cell P0
  have Q1 := hE.cell P1
  have Q2 := hE.cell P2
  by_cases hlt : k < 4
  · have d1 : IntKind.i64.wrap (x + (k : Int)) = x + (k : Int) := by rw [IntKind.wrap_i64]; omega
    have d2 : IntKind.i64.wrap (y + (k : Int)) = y + (k : Int) := by rw [IntKind.wrap_i64]; omega
    go_wp2_with fail
    refine (S1.out _ (x + k) (y - 1) (h.ext (E4.trans hE)) (by omega) (by omega)).mono ?_; rintro e w5 ⟨rfl, hx5⟩
    have O5 : Hid (_ ∧ _ ∧ Apart _ _) := ⟨own_ext HO.out.1 hx5, own_ext HO.out.2.1 hx5, HO.out.2.2⟩
    have E5 : Ext w4 w5 := hE.trans hx5
    have B5 := E5.size
    clear HO hE hx5 Q0 Q1 Q2
    go_wp2_with (at_builtin; refine push_at rfl _ _ 22 rfl Tryz.underlying22 _ _ _ _ rfl O5.out.1 (by show Value.slice (some ⟨w5.heap.size, 0, none⟩) 1 1 = _; simp) B5 (by omega) ?_; intro v6 w6 h1 h2 h3; have O6 := Lib.hid (push_two O5.out.2.1 O5.out.2.2 h2 h3); have E6 : Ext w4 w6 := E5.of_below (grown_below O5.out.1 h2 B5) (Nat.le_refl _); have T6 := Lib.hid h1; have Q0 := E6.cell P0; have Q1 := E6.cell P1; have Q2 := E6.cell P2; clear h1 h2 h3)
    refine (S1.out _ (x - 1) (y + k) (h.ext (E4.trans E6)) (by omega) (by omega)).mono ?_; rintro e w7 ⟨rfl, hx7⟩
    have O7 := Lib.hid (And.intro (own_ext T6.out hx7) (And.intro (own_ext O6.out.1 hx7) O6.out.2))
    have E7 : Ext w4 w7 := E6.trans hx7
    have B7 := E7.size
    clear T6 O6 O5 E6 hx7 Q0 Q1 Q2
    go_wp2_with (at_builtin; refine push_at rfl _ _ 22 rfl Tryz.underlying22 _ _ _ _ rfl O7.out.2.1 (by show Value.slice (some ⟨w7.heap.size, 0, none⟩) 1 1 = _; simp) B7 (by omega) ?_; intro v8 w8 h1 h2 h3; have O8 := Lib.hid (push_two O7.out.1 O7.out.2.2.symm h2 h3); have E8 : Ext w4 w8 := E7.of_below (grown_below O7.out.2.1 h2 B7) (Nat.le_refl _); have T8 := Lib.hid h1; clear h1 h2 h3)
    go_roundw
    case rel =>
     refine ⟨k + 1, by omega, by go_num, ⟨?_, ?_, O8.out.2.symm⟩, E8⟩
     · rw [rowL_se]; exact O8.out.1
     · rw [rowL_se]; exact T8.out
    case measure => simp [intOf]; omega
  · obtain rfl : k = 4 := by omega
    go_wp2_with fail
    refine (S1.out _ (x - 1) (y - 1) (h.ext (E4.trans hE)) (by omega) (by omega)).mono ?_; rintro e w7 ⟨rfl, hx7⟩
    go_wp2
    go_ret3
    exact ⟨_, _, rfl, (E4.trans hE).trans hx7, Ints.of_row (own_ext HO.out.1 hx7) (by omega), Ints.of_row (own_ext HO.out.2.1 hx7) (by omega)⟩
set_option maxHeartbeats 2000000 in
set_option maxRecDepth 20000 in
theorem redges_8 (W H x y : Int) (zs : List Int) (a : Option Addr) (n cap : Nat) (w : World) (h : Ints w (.slice a n cap) zs) (hm : may W H zs) (hx : 0 ≤ x ∧ x ≤ W - 8) (hy : 0 ≤ y ∧ y ≤ H - 8) :
 Calls Tryz.prog 103 #[.agg #[.int .i64 W, .int .i64 H, .slice a n cap], .int .i64 x, .int .i64 y, .int .i64 8] w fun e w' => ∃ u u', e = .returned (.tuple #[u, u', .int .i64 (placeF W zs (x - 1) (y - 1))]) ∧ Ext w w' ∧ Ints w' u (rowL 8 (topF W zs x y)) ∧ Ints w' u' (rowL 8 (leftF W zs x y)) := by
 have M1 := Lib.hid (fun W' k => rmay_any W H zs a n cap W' k)
 have HM := Lib.hid hm
 have b1 := sideB_true hm.1
 have b2 := sideB_true hm.2.1
 have hn : (n : Int) = W * H := by rw [h.len]; exact hm.2.2.1
 have L1 := Lib.hid (fun (W' : World) => lies_any W H x y 8 (.slice a n cap) a n cap W' rfl (by omega) (by omega) (by omega))
 have HL : Hid (liesB W H x y 8 = true) := by show _ = _; unfold liesB; simp; omega
 have S1 := Lib.hid (fun (W' : World) (x' y' : Int) (k : Ints W' (.slice a n cap) zs) (h1 : x' < W) (h2 : y' < H) => sample_any W H x' y' zs a n cap W' k (place_in b1.2.1 b2.2.1 hn h1 h2) (by omega))
 obtain ⟨hx1, hx2⟩ := hx
 obtain ⟨hy1, hy2⟩ := hy
 clear hm hn
 have e3 : IntKind.i64.wrap (x - 1) = x - 1 := by rw [IntKind.wrap_i64]; omega
 have e4 : IntKind.i64.wrap (y - 1) = y - 1 := by rw [IntKind.wrap_i64]; omega
 go_enter Tryz.func103, Tryz.ntmps103
 go_wp2_with fail
 refine (M1.out _ (h.ext (by repeat (first | exact Ext.refl _ | assumption | refine Ext.alloc ?_ _ | refine Ext.drew ?_ | refine Ext.drewN ?_ _ | refine Ext.setCell ?_ (by first | exact Nat.le_refl _ | (simp; done) | omega) _ | refine Ext.trans ?_ (by assumption))))).mono ?_; rintro e w3 ⟨rfl, hx3⟩
 rw [decide_eq_true HM.out]
 have p0 : w3.cell? ⟨w.heap.size, 0, none⟩ = some (.int .i64 W) := hx3.cell (by simp)
 have p1 : w3.cell? ⟨w.heap.size, 1, none⟩ = some (.int .i64 H) := hx3.cell (by simp)
 have p2 : w3.cell? ⟨w.heap.size, 2, none⟩ = some (.slice a n cap) := hx3.cell (by simp)
 have E3 : Ext w w3 := (by repeat (first | exact Ext.refl _ | assumption | refine Ext.alloc ?_ _ | refine Ext.drew ?_ | refine Ext.drewN ?_ _ | refine Ext.setCell ?_ (by first | exact Nat.le_refl _ | (simp; done) | omega) _ | refine Ext.trans ?_ (by assumption)))
 clear hx3
 go_wp2_with fail
 refine (L1.out _).mono ?_; rintro e w4 ⟨rfl, hx4⟩
 rw [HL.out]
 have P0 := hx4.cell p0
 have P1 := hx4.cell p1
 have P2 := hx4.cell p2
 have E4 : Ext w w4 := E3.trans hx4
 have hP : w.heap.size < w4.heap.size := Ext.lt P0
 clear hx4 p0 p1 p2 E3
 go_wp2_with fail
 go_loopw [11, 12, 13] (fun tv lv iv wr => ∃ k : Nat, k ≤ 8 ∧ iv = .int .i64 k ∧ Hid (wr.ownsRow w4.heap.size 3 1 tv k ((rowL k (topF W zs x y)).map (Value.int .i64)) ∧ wr.ownsRow w4.heap.size 3 1 lv k ((rowL k (leftF W zs x y)).map (Value.int .i64)) ∧ Apart tv lv) ∧ Ext w4 wr) (fun _ _ iv _ => 8 - (intOf iv).toNat)
 case atStart => exact ⟨0, Nat.zero_le _, rfl, ⟨⟨rfl, Or.inl ⟨rfl, rfl⟩⟩, ⟨rfl, Or.inl ⟨rfl, rfl⟩⟩, fun b hb => by cases hb⟩, Ext.refl _⟩
 case round =>
  obtain ⟨k, hk, rfl, HO, hE⟩ := hrel
  have Q0 := hE.cell P0
  have Q1 := hE.cell P1
  have Q2 := hE.cell P2
  by_cases hlt : k < 8
  · have d1 : IntKind.i64.wrap (x + (k : Int)) = x + (k : Int) := by rw [IntKind.wrap_i64]; omega
    have d2 : IntKind.i64.wrap (y + (k : Int)) = y + (k : Int) := by rw [IntKind.wrap_i64]; omega
    go_wp2_with fail
    refine (S1.out _ (x + k) (y - 1) (h.ext (E4.trans hE)) (by omega) (by omega)).mono ?_; rintro e w5 ⟨rfl, hx5⟩
    have O5 : Hid (_ ∧ _ ∧ Apart _ _) := ⟨own_ext HO.out.1 hx5, own_ext HO.out.2.1 hx5, HO.out.2.2⟩
    have E5 : Ext w4 w5 := hE.trans hx5
    have B5 := E5.size
    clear HO hE hx5 Q0 Q1 Q2
    go_wp2_with (at_builtin; refine push_at rfl _ _ 22 rfl Tryz.underlying22 _ _ _ _ rfl O5.out.1 (by show Value.slice (some ⟨w5.heap.size, 0, none⟩) 1 1 = _; simp) B5 (by omega) ?_; intro v6 w6 h1 h2 h3; have O6 := Lib.hid (push_two O5.out.2.1 O5.out.2.2 h2 h3); have E6 : Ext w4 w6 := E5.of_below (grown_below O5.out.1 h2 B5) (Nat.le_refl _); have T6 := Lib.hid h1; have Q0 := E6.cell P0; have Q1 := E6.cell P1; have Q2 := E6.cell P2; clear h1 h2 h3)
    refine (S1.out _ (x - 1) (y + k) (h.ext (E4.trans E6)) (by omega) (by omega)).mono ?_; rintro e w7 ⟨rfl, hx7⟩
    have O7 := Lib.hid (And.intro (own_ext T6.out hx7) (And.intro (own_ext O6.out.1 hx7) O6.out.2))
    have E7 : Ext w4 w7 := E6.trans hx7
    have B7 := E7.size
    clear T6 O6 O5 E6 hx7 Q0 Q1 Q2
    go_wp2_with (at_builtin; refine push_at rfl _ _ 22 rfl Tryz.underlying22 _ _ _ _ rfl O7.out.2.1 (by show Value.slice (some ⟨w7.heap.size, 0, none⟩) 1 1 = _; simp) B7 (by omega) ?_; intro v8 w8 h1 h2 h3; have O8 := Lib.hid (push_two O7.out.1 O7.out.2.2.symm h2 h3); have E8 : Ext w4 w8 := E7.of_below (grown_below O7.out.2.1 h2 B7) (Nat.le_refl _); have T8 := Lib.hid h1; clear h1 h2 h3)
    go_roundw
    case rel =>
     refine ⟨k + 1, by omega, by go_num, ⟨?_, ?_, O8.out.2.symm⟩, E8⟩
     · rw [rowL_se]; exact O8.out.1
     · rw [rowL_se]; exact T8.out
    case measure => simp [intOf]; omega
  · obtain rfl : k = 8 := by omega
    go_wp2_with fail
    refine (S1.out _ (x - 1) (y - 1) (h.ext (E4.trans hE)) (by omega) (by omega)).mono ?_; rintro e w7 ⟨rfl, hx7⟩
    go_wp2
    go_ret3
    exact ⟨_, _, rfl, (E4.trans hE).trans hx7, Ints.of_row (own_ext HO.out.1 hx7) (by omega), Ints.of_row (own_ext HO.out.2.1 hx7) (by omega)⟩
end Go.Proofs.YtcekpngkfldgkaaGreatDoor