/- Contracts of this seat: PlN, RNew, Put, Put2, PutA, Get, PutB, ISmp, REd. -/
import Derived.Test.YtcekpngkfldgkaaGreatDoorWGa
import Derived.Test.YtcekpngkfldgkaaGreatDoorWZb
import Derived.Deep.RegionLaw
import Derived.WalkSpells
/- plane.New: its contract over this seat's translation. -/
namespace Go.Proofs.YtcekpngkfldgkaaGreatDoor
set_option linter.unusedVariables false
set_option linter.unusedSimpArgs false
open Go.RowKit Go.Extern.Stop Go.Stop Go.Extern

/-- a frame and an error; the document's -/
def NwPost (w : World) (W H : Int) (zs : List Int) (f : Fall) (e : Ending) (w' : World) : Prop := ∃ a n cap x, e = .returned (.tuple #[.agg #[.int .i64 W, .int .i64 H, .slice a n cap], x]) ∧ Ext w w' ∧ Ints w' (.slice a n cap) zs ∧ ErrIs w' f x
def newOk (W H v : Int) : Bool := sideB W && sideB H && smpB v
theorem new_size {W H : Int} (h : sideB W = true) (k : sideB H = true) : ∃ N : Nat, W * H = (N : Int) ∧ (N = 4 ∨ N = 8 ∨ N = 64 ∨ N = 128 ∨ N = 192 ∨ N = 256 ∨ N = 384 ∨ N = 512 ∨ N = 576 ∨ N = 768 ∨ N = 1024) := by
  refine ⟨(W * H).toNat, ?_, ?_⟩ <;> rcases sideB_cases h with rfl | rfl | rfl | rfl <;> rcases sideB_cases k with rfl | rfl | rfl | rfl <;> decide
set_option maxRecDepth 20000 in
set_option maxHeartbeats 2000000 in
theorem new_no (W H v : Int) (w : World) (h : newOk W H v = false) :
    Calls Tryz.prog 47 #[.int .i64 W, .int .i64 H, .int .i64 v] w (NwPost w 0 0 [] range) := by
  unfold newOk at h
  cases s1 : sideB W with
  | false =>
    clear h
    have F0 := FrAt.new w
    have A0 : Ext w (w.alloc (.cells #[.int .i64 0, .int .i64 0, .slice none 0 0] 24)) := (Ext.refl w).alloc _
    obtain ⟨⟨r0, r1, r2⟩, f0, f1, f2⟩ := F0
    go_enter Tryz.func47, Tryz.ntmps47
    go_wp2_with (first | (go_at_call 55; refine (side_any _ _).mono ?_; rintro e w' ⟨rfl, rfl⟩) | (go_at_call 56; refine (smp_any _ _).mono ?_; rintro e w' ⟨rfl, rfl⟩))
    exact bodyPost_ret (v := .tuple #[.agg #[.int .i64 0, .int .i64 0, .slice none 0 0], .iface 40 (.int .i64 3)]) (by simp [results, Tryz.results47, go_sem, r0, r1, r2]) rfl ⟨_, _, _, _, rfl, A0, Ints.nil _, ErrIs.code (by decide)⟩
  | true =>
    cases s2 : sideB H with
    | false =>
      clear h
      have F0 := FrAt.new w
      have A0 : Ext w (w.alloc (.cells #[.int .i64 0, .int .i64 0, .slice none 0 0] 24)) := (Ext.refl w).alloc _
      obtain ⟨⟨r0, r1, r2⟩, f0, f1, f2⟩ := F0
      go_enter Tryz.func47, Tryz.ntmps47
      go_wp2_with (first | (go_at_call 55; refine (side_any _ _).mono ?_; rintro e w' ⟨rfl, rfl⟩) | (go_at_call 56; refine (smp_any _ _).mono ?_; rintro e w' ⟨rfl, rfl⟩))
      exact bodyPost_ret (v := .tuple #[.agg #[.int .i64 0, .int .i64 0, .slice none 0 0], .iface 40 (.int .i64 3)]) (by simp [results, Tryz.results47, go_sem, r0, r1, r2]) rfl ⟨_, _, _, _, rfl, A0, Ints.nil _, ErrIs.code (by decide)⟩
    | true =>
      obtain s3 : smpB v = false := by rw [s1, s2] at h; simpa using h
      clear h
      have F0 := FrAt.new w
      have A0 : Ext w (w.alloc (.cells #[.int .i64 0, .int .i64 0, .slice none 0 0] 24)) := (Ext.refl w).alloc _
      obtain ⟨⟨r0, r1, r2⟩, f0, f1, f2⟩ := F0
      go_enter Tryz.func47, Tryz.ntmps47
      go_wp2_with (first | (go_at_call 55; refine (side_any _ _).mono ?_; rintro e w' ⟨rfl, rfl⟩) | (go_at_call 56; refine (smp_any _ _).mono ?_; rintro e w' ⟨rfl, rfl⟩))
      exact bodyPost_ret (v := .tuple #[.agg #[.int .i64 0, .int .i64 0, .slice none 0 0], .iface 40 (.int .i64 3)]) (by simp [results, Tryz.results47, go_sem, r0, r1, r2]) rfl ⟨_, _, _, _, rfl, A0, Ints.nil _, ErrIs.code (by decide)⟩
end Go.Proofs.YtcekpngkfldgkaaGreatDoor

/- kinref6.New: its contract over this seat's translation. -/
namespace Go.Proofs.YtcekpngkfldgkaaGreatDoor
set_option linter.unusedVariables false
set_option linter.unusedSimpArgs false
open Go.RowKit Go.Extern.Stop Go.Stop Go.Extern

end Go.Proofs.YtcekpngkfldgkaaGreatDoor

/- slices.Clone; plane.Put: contracts over this seat's translation. -/
namespace Go.Proofs.YtcekpngkfldgkaaGreatDoor
set_option linter.unusedVariables false
set_option linter.unusedSimpArgs false
open Go.RowKit Go.Extern.Stop Go.Stop Go.Extern

set_option maxRecDepth 20000 in
theorem clone_own (zs : List Int) (v : Value) (w : World) (ha : Ints w v zs) (hn0 : 0 < zs.length) (hl : zs.length ≤ 1000000) :
    Calls Tryz.prog 60 #[v] w fun e w' => ∃ g cap, e = .returned (.slice (some ⟨g, 0, none⟩) zs.length cap) ∧ w'.ownsRow w.heap.size 3 1 (.slice (some ⟨g, 0, none⟩) zs.length cap) zs.length (zs.map (Value.int .i64)) ∧ Ext w w' := by
  obtain ⟨i0, hi, hz0, hz1, hz2⟩ := info_parts infoInt
  obtain ⟨n, hn⟩ : ∃ n, n = zs.length := ⟨_, rfl⟩
  have E1 : Ext w (w.alloc (.cells #[] 3)) := (Ext.refl w).alloc _
  have hown : (w.alloc (.cells #[] 3)).ownsRow w.heap.size 3 1 (.slice (some ⟨w.heap.size, 0, none⟩) 0 0) 0 [] := World.ownsRow_made w #[] 0 (Nat.le_refl _) (Nat.zero_le _) rfl
  have fin : ∀ (v' : Value) (w' : World), w'.ownsRow w.heap.size 3 1 v' (0 + n) ([] ++ zs.map (Value.int .i64)) → (w.alloc (.cells #[] 3)).grownBy w' (some w.heap.size) → (∃ g cap, v' = .slice (some ⟨g, 0, none⟩) n cap ∧ w'.ownsRow w.heap.size 3 1 (.slice (some ⟨g, 0, none⟩) n cap) n (zs.map (Value.int .i64))) ∧ Ext w w' := fun v' w' h1 h2 => by
    refine ⟨?_, Below.grown E1 h2 (by simp) (fun k hk => by cases hk; exact Nat.le_refl _)⟩
    have h3 : w'.ownsRow w.heap.size 3 1 v' n (zs.map (Value.int .i64)) := by simpa using h1
    obtain ⟨hl, h⟩ := id h3
    rcases h with ⟨h4, h5⟩ | ⟨g, cap, cur, e, -⟩
    · omega
    · exact ⟨g, cap, e, e ▸ h3⟩
  have FIN := Lib.hid fin
  clear fin
  obtain ⟨g, off, cap, rfl, c1, c2⟩ := ha.addr hn0
  rw [← hn] at ha hl c1 ⊢
  have hnews := news_of_ints (ha.ext E1)
  have HN := Lib.hid hn
  have HW := Lib.hid hnews
  have r1 : ∀ W, (binOp .eql 22 (.slice (some ⟨g, off, none⟩) n cap) (.slice none 0 0)).run Tryz.prog W = .ok (.bool false) W := fun W => Lib.run_eql_slice_nil W _ _ _ n cap 0 0 Tryz.underlying22
  clear hn hnews hn0
  go_enter Tryz.func60, Tryz.ntmps60
  go_wp2_with (at_builtin; refine wpList_append_own _ rfl _ _ 22 rfl w.heap.size 3 i0 (.int .i64 0) 1 8 Tryz.underlying22 hi hz0 hz1 hz2 rfl (by decide) _ 0 [] rfl hown ⟨g, off, none⟩ n cap (zs.map (Value.int .i64)) rfl (by simp [HN.out]) HW.out (ints_one zs) (by unfold maxLen; omega) (by omega) (by simp) ?_; intro v' w' h1 h2 _)
  go_ret
  obtain ⟨⟨g', cap', rfl, h3⟩, h4⟩ := FIN.out _ _ h1 h2
  exact ⟨_, _, rfl, h3, h4⟩
/-- what a frame with a square laid in it is, or why it is none -/
def lies (W H x y n : Int) : Prop := 1 ≤ n ∧ n ≤ 8 ∧ 0 ≤ x ∧ x ≤ W - n ∧ 0 ≤ y ∧ y ≤ H - n
instance (W H x y n : Int) : Decidable (lies W H x y n) := by unfold lies; exact inferInstance
def putAns (W H : Int) (zs : List Int) (x y n : Int) (bs : List Int) : Fall :=
  if may W H zs then (if lies W H x y n then (if (bs.length : Int) = n * n then (if within 0 255 bs then none else range) else fit) else range) else form
def putRow (W : Int) (zs : List Int) (x y n : Int) (bs : List Int) : List Int := rowL zs.length (putK W.toNat x.toNat y.toNat n.toNat (n.toNat * n.toNat) (fun i => zs.getD i 0) (fun i => bs.getD i 0))
theorem putAns_none {W H : Int} {zs : List Int} {x y n : Int} {bs : List Int} (h : putAns W H zs x y n bs = none) : may W H zs ∧ lies W H x y n ∧ (bs.length : Int) = n * n ∧ within 0 255 bs := by
  unfold putAns at h
  split at h
  · rename_i h1
    split at h
    · rename_i h2
      split at h
      · rename_i h3
        split at h
        · rename_i h4
          exact ⟨h1, h2, h3, h4⟩
        · cases h
      · cases h
    · cases h
  · cases h
end Go.Proofs.YtcekpngkfldgkaaGreatDoor

/- plane.Put, a square that may be laid: its contract over this seat's translation. -/
namespace Go.Proofs.YtcekpngkfldgkaaGreatDoor
set_option linter.unusedVariables false
set_option linter.unusedSimpArgs false
open Go.RowKit Go.Extern.Stop Go.Stop Go.Extern

theorem Ints.capq {w : World} {a : Option Addr} {n cap : Nat} {zs : List Int} (h : Ints w (.slice a n cap) zs) (hn : 0 < n) : n ≤ cap := by
  have hl := h.len
  obtain ⟨g, off, c, e, c1, -⟩ := h.addr (by omega)
  simp only [Value.slice.injEq] at e
  omega
theorem own_cur {w : World} {base g n cap : Nat} {xs : List Value} (h : w.ownsRow base 3 1 (.slice (some ⟨g, 0, none⟩) n cap) n xs) :
    ∃ cur : List Value, w.heap[g]? = some (.cells cur.toArray 3 (0, 0)) ∧ cur.length = cap ∧ cur.take n = xs ∧ base ≤ g ∧ n ≤ cap ∧ cap ≤ maxLen := by
  obtain ⟨hl, h | ⟨g', cap', cur, e, hb, hg, h1, h2, hs, ht⟩⟩ := h
  · cases h.1
  · simp only [Value.slice.injEq, Option.some.injEq, Addr.mk.injEq, and_true, true_and] at e
    obtain ⟨rfl, rfl⟩ := e
    exact ⟨cur.toList, by simpa using hg, by simpa using hs, by simpa using ht, hb, h1, h2⟩
theorem cur_own {w : World} {base g n cap : Nat} {xs cur : List Value} (hg : w.heap[g]? = some (.cells cur.toArray 3 (0, 0))) (hl : cur.length = cap) (ht : cur.take n = xs) (hb : base ≤ g) (h1 : n ≤ cap) (h2 : cap ≤ maxLen) :
    w.ownsRow base 3 1 (.slice (some ⟨g, 0, none⟩) n cap) n xs := by
  have hx : xs.length = n := by rw [← ht, List.length_take]; omega
  exact ⟨by omega, Or.inr ⟨g, cap, cur.toArray, rfl, hb, hg, h1, h2, by simpa using hl, by simpa using ht⟩⟩
theorem take_splice {cur cs : List Value} {n off : Nat} (h : off + cs.length ≤ n) (hc : n ≤ cur.length) : (splice cur off cs).take n = splice (cur.take n) off cs := by
  unfold splice
  apply List.ext_getElem?
  intro i
  rw [List.getElem?_take]
  by_cases hi : i < n
  · rw [if_pos hi]
    by_cases h1 : i < off
    · rw [List.getElem?_append_left (by rw [List.length_take]; omega), List.getElem?_append_left (by rw [List.length_take, List.length_take]; omega), List.getElem?_take, List.getElem?_take, if_pos h1, if_pos h1, List.getElem?_take, if_pos hi]
    · have e1 : (cur.take off).length = off := by rw [List.length_take]; omega
      have e2 : ((cur.take n).take off).length = off := by rw [List.length_take, List.length_take]; omega
      have L : (cur.take off ++ (cs ++ cur.drop (off + cs.length)))[i]? = (cs ++ cur.drop (off + cs.length))[i - off]? := by rw [List.getElem?_append_right (by rw [e1]; omega), e1]
      have R : ((cur.take n).take off ++ (cs ++ (cur.take n).drop (off + cs.length)))[i]? = (cs ++ (cur.take n).drop (off + cs.length))[i - off]? := by rw [List.getElem?_append_right (by rw [e2]; omega), e2]
      rw [L, R]
      by_cases h2 : i - off < cs.length
      · rw [List.getElem?_append_left h2, List.getElem?_append_left h2]
      · have L2 : (cs ++ cur.drop (off + cs.length))[i - off]? = (cur.drop (off + cs.length))[i - off - cs.length]? := List.getElem?_append_right (by omega)
        have R2 : (cs ++ (cur.take n).drop (off + cs.length))[i - off]? = ((cur.take n).drop (off + cs.length))[i - off - cs.length]? := List.getElem?_append_right (by omega)
        rw [L2, R2, List.getElem?_drop, List.getElem?_drop, List.getElem?_take, if_pos (by omega)]
  · rw [if_neg hi, List.getElem?_eq_none]
    simp only [List.length_append, List.length_take, List.length_drop]
    omega
end Go.Proofs.YtcekpngkfldgkaaGreatDoor

/- plane.Put of anything. -/
namespace Go.Proofs.YtcekpngkfldgkaaGreatDoor
set_option linter.unusedVariables false
set_option linter.unusedSimpArgs false
open Go.RowKit Go.Extern.Stop Go.Stop Go.Extern

end Go.Proofs.YtcekpngkfldgkaaGreatDoor

/- plane.isNear, plane.Get; kinref6.Get: contracts over this seat's translation. -/
namespace Go.Proofs.YtcekpngkfldgkaaGreatDoor
set_option linter.unusedVariables false
set_option linter.unusedSimpArgs false
open Go.RowKit Go.Extern.Stop Go.Stop Go.Extern

end Go.Proofs.YtcekpngkfldgkaaGreatDoor

/- A frame with a square laid in it: it may be; what is taken from it; squares beside one another. -/
namespace Go.Proofs.YtcekpngkfldgkaaGreatDoor
set_option linter.unusedVariables false
set_option linter.unusedSimpArgs false
open Go.RowKit

def sqrV (W x y n : Int) (zs bs : List Int) (k : Nat) : Int := if inSq W.toNat x.toNat y.toNat n.toNat k then bs.getD (idxSq W.toNat x.toNat y.toNat n.toNat k) 0 else zs.getD k 0
theorem idx_lt {W X Y N k : Nat} (h : inSq W X Y N k) : idxSq W X Y N k < N * N := by
  obtain ⟨J, t, h1, h2, -, h4⟩ := sq_at h
  rw [h4]
  have := Nat.mul_le_mul_right N (show J + 1 ≤ N from h1)
  rw [Nat.succ_mul] at this
  omega
theorem putRow_len (W : Int) (zs : List Int) (x y n : Int) (bs : List Int) : (putRow W zs x y n bs).length = zs.length := rowL_length _ _
theorem putRow_get {W x y n : Int} {zs bs : List Int} {k : Nat} (hk : k < zs.length) : (putRow W zs x y n bs).getD k 0 = sqrV W x y n zs bs k := by
  unfold putRow sqrV
  rw [List.getD, rowL_get hk, Option.getD_some]
  unfold putK
  by_cases hs : inSq W.toNat x.toNat y.toNat n.toNat k
  · rw [if_pos ⟨hs, idx_lt hs⟩, if_pos hs]
  · rw [if_neg (fun e => hs e.1), if_neg hs]
theorem within_getD {lo hi : Int} {zs : List Int} (h : ∀ k, k < zs.length → lo ≤ zs.getD k 0 ∧ zs.getD k 0 ≤ hi) : within lo hi zs := within_of_gets fun j x hj hx => by
  have := h j hj
  rw [getD_of_get hx] at this
  exact this
theorem getD_within {lo hi : Int} {zs : List Int} (h : within lo hi zs) {k : Nat} (hk : k < zs.length) : lo ≤ zs.getD k 0 ∧ zs.getD k 0 ≤ hi := h.at (get_of_lt hk)
theorem put_may {W H x y n : Int} {zs bs : List Int} (h : putAns W H zs x y n bs = none) : may W H (putRow W zs x y n bs) := by
  obtain ⟨h1, h2, h3, h4⟩ := putAns_none h
  obtain ⟨m1, m2, m3, m4⟩ := h1
  obtain ⟨l1, l2, l3, l4, l5, l6⟩ := h2
  refine ⟨m1, m2, by rw [putRow_len]; exact m3, within_getD fun k hk => ?_⟩
  rw [putRow_len] at hk
  rw [putRow_get hk]
  unfold sqrV
  by_cases hs : inSq W.toNat x.toNat y.toNat n.toNat k
  · rw [if_pos hs]
    have h5 := idx_lt hs
    have h6 : ((n.toNat * n.toNat : Nat) : Int) = n * n := by push_cast; rw [Int.toNat_of_nonneg (by omega)]
    exact getD_within h4 (by omega)
  · rw [if_neg hs]
    exact getD_within m4 hk
end Go.Proofs.YtcekpngkfldgkaaGreatDoor

/- kinlaw10.IntraSamples: the walk. -/
namespace Go.Proofs.YtcekpngkfldgkaaGreatDoor
set_option linter.unusedVariables false
set_option linter.unusedSimpArgs false
open Go.RowKit Go.Extern.Stop Go.Stop Go.Extern

theorem rowL_mem {N : Nat} {f : Nat → Int} {x : Int} (h : x ∈ rowL N f) : ∃ j, j < N ∧ x = f j := by
  unfold rowL at h
  obtain ⟨j, hj, rfl⟩ := List.mem_map.1 h
  exact ⟨j, List.mem_range.1 hj, rfl⟩
theorem clipI_bd (x : Int) : 0 ≤ clipI x ∧ clipI x ≤ 255 := by unfold clipI; omega
theorem meanOf_bd {ts ls : List Int} {c : Int} (h : chkAns ts ls c = none) : 0 ≤ meanOf ts ls ∧ meanOf ts ls ≤ 255 := by
  obtain ⟨h1, h2, h3, h4, h5⟩ := chkAns_none h
  have b := nbF_bound h3 h4 ts.length
  unfold meanOf
  rcases h1 with h1 | h1 <;> rw [h1] at b ⊢ <;> push_cast at b ⊢ <;> omega
theorem prdF_bd {m : Int} {ts ls : List Int} {c : Int} (h : chkAns ts ls c = none) (k : Nat) : 0 ≤ prdF m ts ls c k ∧ prdF m ts ls c k ≤ 255 := by
  obtain ⟨h1, h2, h3, h4, h5⟩ := chkAns_none h
  unfold prdF
  split
  · exact meanOf_bd h
  · split
    · exact h3 _
    · split
      · exact h4 _
      · exact clipI_bd _
theorem prdL_within {m : Int} {ts ls : List Int} {c : Int} (h : chkAns ts ls c = none) : within 0 255 (prdL m ts ls c) := fun x hx => by
  obtain ⟨j, _, rfl⟩ := rowL_mem hx
  exact prdF_bd h j
theorem prdL_len (m : Int) (ts ls : List Int) (c : Int) : (prdL m ts ls c).length = ts.length * ts.length := rowL_length _ _
end Go.Proofs.YtcekpngkfldgkaaGreatDoor

/- kinref10.Edges: its contract over this seat's translation. -/
namespace Go.Proofs.YtcekpngkfldgkaaGreatDoor
set_option linter.unusedVariables false
set_option linter.unusedSimpArgs false
open Go.RowKit Go.Extern.Stop Go.Stop Go.Extern

/-- the neighbours of a square, by the document -/
def topF (W : Int) (zs : List Int) (x y : Int) (i : Nat) : Int := placeF W zs (x + i) (y - 1)
def leftF (W : Int) (zs : List Int) (x y : Int) (i : Nat) : Int := placeF W zs (x - 1) (y + i)
end Go.Proofs.YtcekpngkfldgkaaGreatDoor

