/- Contracts of this seat: Ints, Copy, Push, Kp, Ob0, Fall, Mm, BiM, Brd, Bcl, Fr, AnyB, BMath, WOwn, Blk, Blk2, Ord, Bwr, Bwr2, Bwr3, Re1, Ra1, Mat, Opn, OpT, Bst, Res. -/
import Derived.Test.YtcekpngkfldgkaaGreatDoorXZa
import Derived.Maps.AppendAt
import Derived.Deep.AppendLies
import Derived.Lib.Hide
import Derived.Test.YtcekpngkfldgkaaGreatDoorXErrFacts
import Derived.BigQuiet
import Derived.Deep.QuietTactic
import Derived.WalkSpells
import Derived.Test.YtcekpngkfldgkaaGreatDoorCards
import Derived.Sort.WalkC
import Derived.Lib.OwnBridge
import Derived.BigRegion
import Derived.Laws.OwnMore
import Derived.Deep.RegionHeld3
import Derived.Deep.OwnRows
import Derived.Deep.Matrix
import Derived.OpenShut
import Derived.Lib.SmallJoins
import Derived.Deep.Slices
import Derived.Deep.Grids
import Derived.Laws.BytesArg
namespace Go.Proofs.YtcekpngkfldgkaaGreatDoor
set_option linter.unusedVariables false
set_option linter.unusedSimpArgs false
open Go.RowKit Go.Extern.Stop Go.Stop Go.Extern
def Ints (w : World) (v : Value) (zs : List Int) : Prop := Row w v zs.length (zs.map (Value.int .i64)) ∧ zs.length ≤ 4611686018427387903
theorem Ints.ext {w w' : World} {v : Value} {zs : List Int} (h : Ints w v zs) (k : Ext w w') : Ints w' v zs := ⟨h.1.ext k, h.2⟩
theorem Ints.form {w : World} {v : Value} {zs : List Int} (h : Ints w v zs) : ∃ a cap, v = .slice a zs.length cap := h.1.form
theorem Ints.addr {w : World} {v : Value} {zs : List Int} (h : Ints w v zs) (hn : 0 < zs.length) : ∃ g off cap, v = .slice (some ⟨g, off, none⟩) zs.length cap ∧ zs.length ≤ cap ∧ cap ≤ maxLen := h.1.some hn
theorem Ints.len {w : World} {a : Option Addr} {n cap : Nat} {zs : List Int} (h : Ints w (.slice a n cap) zs) : n = zs.length := by
 obtain ⟨a', cap', e⟩ := h.form
 simp only [Value.slice.injEq] at e
 exact e.2.1
theorem Ints.had {w : World} {a : Option Addr} {n cap : Nat} {zs : List Int} (h : Ints w (.slice a n cap) zs) (hn : 0 < n) : ∃ g off, a = some ⟨g, off, none⟩ := by
 obtain ⟨⟨a', cap', e, _, _, h3, _⟩, _⟩ := h
 simp only [Value.slice.injEq] at e
 obtain ⟨rfl, rfl, rfl⟩ := e
 exact h3 hn
theorem Ints.at {w : World} {g off n cap : Nat} {zs : List Int} (h : Ints w (.slice (some ⟨g, off, none⟩) n cap) zs) {j : Nat} {x : Int} (hj : zs[j]? = some x) : w.cell? ⟨g, off + j, none⟩ = some (.int .i64 x) := by
 obtain ⟨⟨a, cap', h0, _, _, _, h4⟩, _⟩ := h
 simp only [Value.slice.injEq] at h0
 exact h4 g off h0.1.symm j _ (by simp [hj])
theorem Ints.of_owns {w : World} {base : Nat} {v : Value} {n : Nat} {zs : List Int} (h : w.ownsRow base 3 1 v n (zs.map (Value.int .i64))) (hl : zs.length ≤ 4611686018427387903) : Ints w v zs := by
 have hn : n = zs.length := by have := h.1; simp at this; omega
 subst hn
 exact ⟨Row.of_owns h, hl⟩
theorem Ints.nil (w : World) : Ints w (.slice none 0 0) [] := ⟨Row.nil w, by simp⟩
theorem eq_of_gets {xs ys : List Int} (hl : xs.length = ys.length) (h : ∀ j, j < xs.length → xs[j]? = ys[j]?) : xs = ys := by
 apply List.ext_getElem?
 intro j
 by_cases hj : j < xs.length
 · exact h j hj
 · rw [List.getElem?_eq_none (by omega), List.getElem?_eq_none (by omega)]
set_option maxRecDepth 20000 in
set_option maxHeartbeats 1000000 in
theorem ints_same (xs ys : List Int) (va vb : Value) (w : World) (ha : Ints w va xs) (hb : Ints w vb ys) :
 Calls Tryz.prog 41 #[va, vb] w fun e w' => e = .returned (.bool (decide (xs = ys))) ∧ Ext w w' := by
 obtain ⟨n, hn⟩ : ∃ n, n = xs.length := ⟨_, rfl⟩
 obtain ⟨m, hm⟩ : ∃ m, m = ys.length := ⟨_, rfl⟩
 have hle := ha.2
 have hle' := hb.2
 by_cases hnm : n = m
 · by_cases hz : n = 0
   · obtain ⟨a, cap, rfl⟩ := ha.form
     obtain ⟨b, cap', rfl⟩ := hb.form
     obtain rfl : xs = [] := List.eq_nil_of_length_eq_zero (by omega)
     obtain rfl : ys = [] := List.eq_nil_of_length_eq_zero (by omega)
     clear ha hb hnm hz hn hm
     go_enter Tryz.func41, Tryz.ntmps41
     go_wp2
     refine wp_loop_rounds 1 ?_
     rw [rounds_succ]
     go_wp2
     go_ret
     exact ⟨rfl, Ext.refl w⟩
   · obtain ⟨g, off, cap, rfl, c1, c2⟩ := ha.addr (by omega)
     obtain ⟨g', off', cap', rfl, c1', c2'⟩ := hb.addr (by omega)
     rw [← hn] at ha hle c1 ⊢
     rw [← hm, ← hnm] at hb c1' ⊢
     rw [← hnm] at hm
     have HN := Lib.hid hn
     have HM := Lib.hid hm
     unfold maxLen at c2 c2'
     clear hn hm hnm hle' m
     go_enter Tryz.func41, Tryz.ntmps41
     go_wp2
     go_loopw [5] (fun i wr => ∃ k : Nat, k ≤ n ∧ i = .int .i64 k ∧ Ext w wr ∧ Hid (∀ j, j < k → xs[j]? = ys[j]?)) (fun i _ => n - (intOf i).toNat)
     case atStart => exact ⟨0, Nat.zero_le _, rfl, Ext.refl w, fun j hj => absurd hj (Nat.not_lt_zero _)⟩
     case round =>
      obtain ⟨k, hk, rfl, hE, HJ⟩ := hrel
      by_cases hlt : k < n
      · obtain ⟨x, hx⟩ : ∃ x, xs[k]? = some x := ⟨_, List.getElem?_eq_getElem (by rw [← HN.out]; exact hlt)⟩
        obtain ⟨y, hy⟩ : ∃ y, ys[k]? = some y := ⟨_, List.getElem?_eq_getElem (by rw [← HM.out]; exact hlt)⟩
        have cx := hE.cell (ha.at hx)
        have cy := hE.cell (hb.at hy)
        have HX := Lib.hid hx
        have HY := Lib.hid hy
        clear hx hy
        by_cases hxy : x = y
        · subst hxy
          go_wp2
          go_quiet (fail)
          go_wp2
          go_roundw
          case rel => exact ⟨k + 1, by omega, by go_num, hE.drewN _, fun j hj => by
           by_cases hjk : j = k
           · subst hjk; rw [HX.out, HY.out]
           · exact HJ.out j (by omega)⟩
          case measure => simp [intOf]; omega
        · have hne : (x != y) = true := by simpa using hxy
          have hne2 : (x == y) = false := by simpa using hxy
          go_wp2
          go_quiet (fail)
          go_wp2
          go_ret
          refine ⟨?_, hE.drewN _⟩
          have : xs ≠ ys := fun e => by
           have h1 := HX.out
           rw [e, HY.out] at h1
           exact hxy (Option.some.inj h1).symm
          simp [this]
      · go_wp2
        go_ret
        refine ⟨?_, hE⟩
        have : xs = ys := eq_of_gets (by rw [← HN.out, ← HM.out]) (fun j hj => HJ.out j (by rw [← HN.out] at hj; omega))
        simp [this]
 · obtain ⟨a, cap, rfl⟩ := ha.form
   obtain ⟨b, cap', rfl⟩ := hb.form
   have hne : ((xs.length : Int) != (ys.length : Int)) = true := by simp; omega
   have hxy : xs ≠ ys := fun e => hnm (by rw [hn, hm, e])
   have HXY := Lib.hid hxy
   clear hnm hn hm hxy ha hb
   go_enter Tryz.func41, Tryz.ntmps41
   go_wp2
   go_ret
   exact ⟨by simp [HXY.out], Ext.refl w⟩
def within (lo hi : Int) (zs : List Int) : Prop := ∀ x ∈ zs, lo ≤ x ∧ x ≤ hi
instance (lo hi : Int) (zs : List Int) : Decidable (within lo hi zs) := by unfold within; exact inferInstance
theorem within_of_gets {lo hi : Int} {zs : List Int} (h : ∀ j x, j < zs.length → zs[j]? = some x → lo ≤ x ∧ x ≤ hi) : within lo hi zs := fun x hx => by
 obtain ⟨j, hj, e⟩ := List.mem_iff_getElem.1 hx
 exact h j x hj (by rw [List.getElem?_eq_getElem hj, e])
theorem within.at {lo hi : Int} {zs : List Int} (h : within lo hi zs) {j : Nat} {x : Int} (hj : zs[j]? = some x) : lo ≤ x ∧ x ≤ hi := h x (List.mem_of_getElem? hj)
set_option maxRecDepth 20000 in
set_option maxHeartbeats 1000000 in
theorem within_any (zs : List Int) (lo hi : Int) (v : Value) (w : World) (ha : Ints w v zs) :
 Calls Tryz.prog 31 #[v, .int .i64 lo, .int .i64 hi] w fun e w' => e = .returned (.bool (decide (within lo hi zs))) ∧ Ext w w' := by
 obtain ⟨n, hn⟩ : ∃ n, n = zs.length := ⟨_, rfl⟩
 have hle := ha.2
 by_cases hz : n = 0
 · obtain ⟨a, cap, rfl⟩ := ha.form
   obtain rfl : zs = [] := List.eq_nil_of_length_eq_zero (by omega)
   clear ha hz hn
   go_enter Tryz.func31, Tryz.ntmps31
   go_wp2
   refine wp_loop_rounds 1 ?_
   rw [rounds_succ]
   go_wp2
   go_ret
   exact ⟨by simp [within], Ext.refl w⟩
 · obtain ⟨g, off, cap, rfl, c1, c2⟩ := ha.addr (by omega)
   rw [← hn] at ha hle c1 ⊢
   have HN := Lib.hid hn
   unfold maxLen at c2
   clear hn
   go_enter Tryz.func31, Tryz.ntmps31
   go_wp2
   go_loop [7] (fun i => ∃ k : Nat, k ≤ n ∧ i = .int .i64 k ∧ Hid (∀ j x, j < k → zs[j]? = some x → lo ≤ x ∧ x ≤ hi)) (fun i => n - (intOf i).toNat)
   case atStart => exact ⟨0, Nat.zero_le _, rfl, fun j _ hj => absurd hj (Nat.not_lt_zero _)⟩
   case round =>
    obtain ⟨k, hk, rfl, HJ⟩ := hrel
    by_cases hlt : k < n
    · obtain ⟨x, hx⟩ : ∃ x, zs[k]? = some x := ⟨_, List.getElem?_eq_getElem (by rw [← HN.out]; exact hlt)⟩
      have cx := ha.at hx
      have HX := Lib.hid hx
      clear hx
      by_cases h1 : x < lo
      · go_wp2
        go_ret
        refine ⟨?_, Ext.refl w⟩
        have : ¬ within lo hi zs := fun hw => by have := (hw.at HX.out).1; omega
        simp [this]
      · by_cases h2 : hi < x
        · go_wp2
          go_ret
          refine ⟨?_, Ext.refl w⟩
          have : ¬ within lo hi zs := fun hw => by have := (hw.at HX.out).2; omega
          simp [this]
        · go_wp2
          go_round
          case rel => exact ⟨k + 1, by omega, by go_num, fun j y hj hy => by
           by_cases hjk : j = k
           · subst hjk
             have : x = y := Option.some.inj (HX.out.symm.trans hy)
             omega
           · exact HJ.out j y (by omega) hy⟩
          case measure => simp [intOf]; omega
    · go_wp2
      go_ret
      refine ⟨?_, Ext.refl w⟩
      have : within lo hi zs := within_of_gets fun j x hj hx => HJ.out j x (by rw [← HN.out] at hj; omega) hx
      simp [this]
theorem infoInt : (Tryz.prog.info? 3).map (fun i => (i.zero, i.size, i.bytes)) = some (some (.int .i64 0), 1, 8) := by kernel_rfl
theorem news_of_ints {w : World} {g off n cap : Nat} {zs : List Int} (h : Ints w (.slice (some ⟨g, off, none⟩) n cap) zs) : ∀ j u, (zs.map (Value.int .i64))[j]? = some u → w.cell? ((⟨g, off, none⟩ : Addr).add j) = some u := fun j u hu => by
 have hadd : (⟨g, off, none⟩ : Addr).add j = ⟨g, off + j, none⟩ := by unfold Addr.add; split <;> simp_all
 rw [List.getElem?_map] at hu
 obtain ⟨x, hx, rfl⟩ := Option.map_eq_some_iff.1 hu
 rw [hadd]
 exact h.at hx
theorem ints_one (zs : List Int) : ∀ u ∈ zs.map (Value.int .i64), u.oneCell' = true := fun u hu => by
 obtain ⟨x, _, rfl⟩ := List.mem_map.1 hu
 rfl
theorem one_int (x : Int) : ∀ u ∈ [Value.int .i64 x], u.oneCell' = true := fun u hu => by
 obtain rfl := List.mem_singleton.1 hu
 rfl
open Go.RowKit
theorem push_int {ops : Array Oper} {rest : List Oper} {o : Oper} {a : Act} {Q : Exit → Act → World → Prop} {W : World} {base : Nat} (hgd : o.guard = none) (s y : Operand) (t : TypeId)
 (ho : o.op = .call { callee := .builtin .append, args := #[s, y], argTypes := #[t, t] }) (ht : Tryz.prog.underlying t = some (.slice 3))
 (v : Value) (n : Nat) (xs : List Value) (x : Int) (hs : a.eval s = v) (hown : W.ownsRow base 3 1 v n xs) (hx : a.eval y = .slice (some ⟨W.heap.size, 0, none⟩) 1 1) (hb : base ≤ W.heap.size) (hn : n ≤ 1000000000000)
 (h : ∀ v' w', w'.ownsRow base 3 1 v' (n + 1) (xs ++ [.int .i64 x]) → Below base W w' → wpList Tryz.prog ops Q rest (a.put o.dst v') w') :
 wpList Tryz.prog ops Q (o :: rest) a (W.alloc (.cells #[.int .i64 x] 3)) := by
 obtain ⟨i0, hi, hz0, hz1, hz2⟩ := info_parts infoInt
 refine wpList_append_own _ hgd s y t ho base 3 i0 (.int .i64 0) 1 8 ht hi hz0 hz1 hz2 rfl (by decide) v n xs hs (hown.alloc _) ⟨W.heap.size, 0, none⟩ 1 1 [.int .i64 x] hx rfl (cell_one_new _ _ _) (one_int _) (by unfold maxLen; omega) (by omega) (by simp; omega) ?_
 intro v' w' h1 h2 _
 exact h v' w' h1 (Below.grown ((Below.refl base W).alloc hb _) h2 (by simp; omega) (fun k hk => (hown.lt k hk).1))
theorem Ext.of_below {w a b : World} {B : Nat} (h : Ext w a) (k : Below B a b) (hB : w.heap.size ≤ B) : Ext w b := Below.trans h (Below.mono k hB)
theorem Below.cellv {B : Nat} {a b : World} (k : Below B a b) {p : Addr} {v : Value} (h : a.cell? p = some v) (hp : p.block < B) : b.cell? p = some v := (Below.cell k hp).trans h
theorem step_push {ops : Array Oper} {o : Oper} {a : Act} {K : Act → World → Prop} {Q : Exit → Act → World → Prop} {E : Prop} {W : World} {base : Nat} (hgd : o.guard = none) (s y : Operand) (t : TypeId)
 (ho : o.op = .call { callee := .builtin .append, args := #[s, y], argTypes := #[t, t] }) (ht : Tryz.prog.underlying t = some (.slice 3))
 (v : Value) (n : Nat) (xs : List Value) (x : Int) (hs : a.eval s = v) (hown : W.ownsRow base 3 1 v n xs) (hx : a.eval y = .slice (some ⟨W.heap.size, 0, none⟩) 1 1) (hb : base ≤ W.heap.size) (hn : n ≤ 1000000000000)
 (h : ∀ g cap w', w'.ownsRow base 3 1 (.slice (some ⟨g, 0, none⟩) (n + 1) cap) (n + 1) (xs ++ [.int .i64 x]) → Below base W w' → W.grownBy w' v.ownBlock → K (a.put o.dst (.slice (some ⟨g, 0, none⟩) (n + 1) cap)) w') :
 if Region.wanted o (yielded ops a.tmps) = true then Oper.wp Tryz.prog o a ((W.alloc (.cells #[.int .i64 x] 3)).drew) K Q else E := by
 obtain ⟨i0, hi, hz0, hz1, hz2⟩ := info_parts infoInt
 have hown' : ((W.alloc (.cells #[.int .i64 x] 3)).drew).ownsRow base 3 1 v n xs := (hown.alloc _).drew
 refine step_append_lies _ hgd s y t ho base 3 i0 (.int .i64 0) 1 8 ht hi hz0 hz1 hz2 rfl (by decide) v n xs hs hown' ⟨W.heap.size, 0, none⟩ 1 1 [.int .i64 x] hx rfl (World.news_of_block (cs := #[.int .i64 x]) (t := 3) (fr := (0, 0)) (heap_alloc_new W _)) (one_int _) (by decide) (by unfold maxLen; omega) (by omega) (by simp; omega) (W.heap.size + 1) (by simp) ?_
 intro g cap w' h1 h2 _ _
 refine h g cap w' h1 (Below.grown (((Below.refl base W).alloc hb _).drew) h2 (by simp; omega) (fun k hk => (hown.lt k hk).1)) ⟨h2.os, h2.tape, h2.output, Nat.le_trans (by simp) h2.size, fun k hk hne => ?_⟩
 exact (h2.block k (by simp; omega) hne).trans (Below.heap_alloc W _ k hk)
def Kp (b : Nat) (w w' : World) : Prop := World.grownBy w w' (some b)
theorem Kp.refl (b : Nat) (w : World) : Kp b w w := ⟨rfl, rfl, rfl, Nat.le_refl _, fun _ _ _ => rfl⟩
theorem Kp.size {b : Nat} {w w' : World} (h : Kp b w w') : w.heap.size ≤ w'.heap.size := World.grownBy.size h
theorem Kp.block {b : Nat} {w w' : World} (h : Kp b w w') {k : Nat} (hk : k < w.heap.size) (hb : k ≠ b) : w'.heap[k]? = w.heap[k]? := World.grownBy.block h k hk (fun e => hb (Option.some.inj e))
theorem Kp.trans {b : Nat} {u v w : World} (h : Kp b u v) (k : Kp b v w) : Kp b u w :=
 ⟨(World.grownBy.os k).trans (World.grownBy.os h), (World.grownBy.tape k).trans (World.grownBy.tape h), (World.grownBy.output k).trans (World.grownBy.output h), Nat.le_trans h.size k.size, fun i hi hn => (World.grownBy.block k i (Nat.lt_of_lt_of_le hi h.size) hn).trans (World.grownBy.block h i hi hn)⟩
theorem Kp.of_ext {b : Nat} {w w' : World} (h : Ext w w') : Kp b w w' := ⟨Below.os h, Below.tape h, Below.output h, h.size, fun _ hi _ => h.block hi⟩
theorem Kp.ext {b : Nat} {u v w : World} (h : Kp b u v) (k : Ext v w) : Kp b u w := h.trans (Kp.of_ext k)
theorem Kp.set {b : Nat} {u v : World} (h : Kp b u v) (o : Nat) (x : Value) : Kp b u (v.setCell ⟨b, o, none⟩ x) :=
 h.trans ⟨rfl, rfl, rfl, by simp, fun i _ hn => Below.heap_setCell v ⟨b, o, none⟩ x i (fun e => hn (by rw [e]))⟩
theorem Kp.cell {b : Nat} {w w' : World} (h : Kp b w w') {p : Addr} {v : Value} (hp : w.cell? p = some v) (hb : p.block ≠ b) : w'.cell? p = some v :=
 (World.cell?_of_block (h.block (Ext.lt hp) hb)).trans hp
def Step (F : Nat → Prop) (w : World) (F' : Nat → Prop) (w' : World) : Prop := ((w'.os = w.os ∧ w'.tape = w.tape ∧ w'.output = w.output) ∧ w.heap.size ≤ w'.heap.size ∧ ∀ k, k < w.heap.size → ¬ F k → w'.heap[k]? = w.heap[k]?) ∧ ∀ k, F' k → F k ∨ w.heap.size ≤ k
theorem Step.refl (F : Nat → Prop) (w : World) : Step F w F w := ⟨⟨⟨rfl, rfl, rfl⟩, Nat.le_refl _, fun _ _ _ => rfl⟩, fun _ h => .inl h⟩
theorem Step.trans {F G H : Nat → Prop} {u v w : World} (h : Step F u G v) (k : Step G v H w) : Step F u H w := by
 obtain ⟨⟨⟨h1, h2, h3⟩, h4, h5⟩, h6⟩ := h
 obtain ⟨⟨⟨k1, k2, k3⟩, k4, k5⟩, k6⟩ := k
 refine ⟨⟨⟨k1.trans h1, k2.trans h2, k3.trans h3⟩, Nat.le_trans h4 k4, fun i hi hn => ?_⟩, fun i hi => ?_⟩
 · exact (k5 i (Nat.lt_of_lt_of_le hi h4) (fun hg => (h6 i hg).elim hn (by omega))).trans (h5 i hi hn)
 · rcases k6 i hi with hg | hg
   · exact h6 i hg
   · exact .inr (by omega)
theorem Step.of_ext {F : Nat → Prop} {w w' : World} (h : Ext w w') : Step F w F w' := ⟨⟨⟨Below.os h, Below.tape h, Below.output h⟩, h.size, fun _ hi _ => h.block hi⟩, fun _ h => .inl h⟩
theorem Step.ext {F G : Nat → Prop} {u v w : World} (h : Step F u G v) (k : Ext v w) : Step F u G w := h.trans (Step.of_ext k)
theorem Step.out {F G : Nat → Prop} {u v w : World} (h : Ext u v) (k : Step F v G w) (hF : ∀ i, F i → u.heap.size ≤ i) : Ext u w ∧ ∀ i, G i → u.heap.size ≤ i := by
 refine ⟨Below.trans (c := w) h ⟨k.1.1.1, k.1.1.2.1, k.1.1.2.2, k.1.2.1, fun i hi => k.1.2.2 i (Nat.lt_of_lt_of_le hi h.size) (fun hi' => by have := hF i hi'; omega)⟩, fun i hi => ?_⟩
 rcases k.2 i hi with hf | hf
 · exact hF i hf
 · exact Nat.le_trans h.size hf
theorem Step.of_kp {F : Nat → Prop} {a : Nat} {w w' : World} (h : Kp a w w') (ha : F a) : Step F w F w' := ⟨⟨⟨World.grownBy.os h, World.grownBy.tape h, World.grownBy.output h⟩, h.size, fun i hi hn => h.block hi (fun e => hn (e ▸ ha))⟩, fun _ h => .inl h⟩
theorem Step.apart {F G X : Nat → Prop} {u v : World} (h : Step F u G v) (hX : ∀ k, X k → k < u.heap.size) (hd : ∀ k, X k → ¬ F k) : (∀ k, X k → v.heap[k]? = u.heap[k]?) ∧ (∀ k, X k → ¬ G k) ∧ ∀ k, X k → k < v.heap.size :=
 ⟨fun k hk => h.1.2.2 k (hX k hk) (hd k hk), fun k hk hg => (h.2 k hg).elim (hd k hk) (fun h' => by have := hX k hk; omega), fun k hk => Nat.lt_of_lt_of_le (hX k hk) h.1.2.1⟩
def FPost {σ : Type} (At : World → (Nat → Prop) → σ → Prop) (F : Nat → Prop) (w : World) (v : Value) (s : σ) (e : Ending) (w' : World) : Prop := e = .returned v ∧ ∃ F', At w' F' s ∧ Step F w F' w'
structure Obj {σ : Type} (A : World → (Nat → Prop) → σ → Prop) : Prop where
 lt : ∀ {w F s}, A w F s → ∀ k, F k → k < w.heap.size
 same : ∀ {w w' F s}, A w F s → (∀ i, F i → w'.heap[i]? = w.heap[i]?) → A w' F s
def Sep {σ τ : Type} (A : World → (Nat → Prop) → σ → Prop) (B : World → (Nat → Prop) → τ → Prop) (w : World) (F : Nat → Prop) (p : σ × τ) : Prop := ∃ F1 F2, A w F1 p.1 ∧ B w F2 p.2 ∧ (∀ k, F2 k → ¬ F1 k) ∧ ∀ k, F k ↔ (F1 k ∨ F2 k)
section
variable {σ τ : Type} {A : World → (Nat → Prop) → σ → Prop} {B : World → (Nat → Prop) → τ → Prop} {w0 w w' : World}
theorem Obj.sep (a : Obj A) (b : Obj B) : Obj (Sep A B) := ⟨fun ⟨F1, F2, h1, h2, _, h4⟩ k hk => ((h4 k).1 hk).elim (a.lt h1 k) (b.lt h2 k),
 fun ⟨F1, F2, h1, h2, h3, h4⟩ k => ⟨F1, F2, a.same h1 (fun i hi => k i ((h4 i).2 (.inl hi))), b.same h2 (fun i hi => k i ((h4 i).2 (.inr hi))), h3, h4⟩⟩
theorem sep_l (b : Obj B) {f : FuncId} {args : Array Value} {v : Value} {s' : σ} {p : σ × τ} {F : Nat → Prop} (h : Sep A B w F p) (c : ∀ G, A w G p.1 → Calls Tryz.prog f args w (FPost A G w v s')) : Calls Tryz.prog f args w (FPost (Sep A B) F w v (s', p.2)) := by
 obtain ⟨F1, F2, h1, h2, h3, h4⟩ := h
 refine (c F1 h1).mono ?_
 rintro e w' ⟨rfl, F', h', st⟩
 obtain ⟨k1, k2, k3⟩ := st.apart (b.lt h2) h3
 refine ⟨rfl, fun k => F' k ∨ F2 k, ⟨F', F2, h', b.same h2 k1, k2, fun _ => Iff.rfl⟩, ⟨st.1.1, st.1.2.1, fun k hk hn => st.1.2.2 k hk (fun hf => hn ((h4 k).2 (.inl hf)))⟩, ?_⟩
 rintro k (hk | hk)
 · exact (st.2 k hk).imp (fun h => (h4 k).2 (.inl h)) id
 · exact .inl ((h4 k).2 (.inr hk))
def Uno (A : World → (Nat → Prop) → σ → Prop) (w0 w : World) (s : σ) : Prop := ∃ F, A w F s ∧ Ext w0 w ∧ ∀ k, F k → w0.heap.size ≤ k
theorem Uno.ext (a : Obj A) {s : σ} (h : Uno A w0 w s) (k : Ext w w') : Uno A w0 w' s := by
 obtain ⟨F, h1, h2, h3⟩ := h
 exact ⟨F, a.same h1 (fun i hi => k.block (a.lt h1 i hi)), h2.trans k, h3⟩
theorem Uno.out {s : σ} (h : Uno A w0 w s) : Ext w0 w := by obtain ⟨F, h1, h2, h3⟩ := h; exact h2
theorem Uno.add (a : Obj A) {s : σ} {t : τ} {G : Nat → Prop} (h : Uno A w0 w s) (k : Ext w w') (hb : B w' G t) (hG : ∀ k, G k → w.heap.size ≤ k) : Uno (Sep A B) w0 w' (s, t) := by
 obtain ⟨F, h1, h2, h3⟩ := h
 refine ⟨fun i => F i ∨ G i, ⟨F, G, a.same h1 (fun i hi => k.block (a.lt h1 i hi)), hb, fun i hi hf => by have := a.lt h1 i hf; have := hG i hi; omega, fun _ => Iff.rfl⟩, h2.trans k, ?_⟩
 rintro i (hi | hi)
 · exact h3 i hi
 · exact Nat.le_trans h2.size (hG i hi)
theorem Uno.first {s : σ} {F : Nat → Prop} (h : A w F s) (k : Ext w0 w) (hF : ∀ k, F k → w0.heap.size ≤ k) : Uno A w0 w s := ⟨F, h, k, hF⟩
theorem Uno.r {p : σ × τ} (h : Uno (Sep A B) w0 w p) : ∃ G, B w G p.2 := by obtain ⟨_, ⟨_, F2, _, h1, _⟩, _⟩ := h; exact ⟨F2, h1⟩
end
abbrev Fall := Option (List (ByteArray × Int) × Int)
def ErrIs (w : World) (f : Fall) (x : Value) : Prop := match f with
 | none => x = .nilIface
 | some (p, c) => IsErr w p c x ∧ c ≠ 0 ∧ p.length ≤ 1000000
def RErrIs (w : World) (f : Fall) (c : Int) (v : Value) : Prop := match f with
 | none => c = 0 ∧ v = .slice none 0 0
 | some (p, k) => c = k ∧ k ≠ 0 ∧ Row w v p.length (stepCells p)
theorem ErrIs.ext {w w' : World} {f : Fall} {x : Value} (h : ErrIs w f x) (k : Ext w w') : ErrIs w' f x := by
 cases f with
 | none => exact h
 | some a => exact ⟨h.1.ext k, h.2⟩
theorem ErrIs.code {w : World} {c : Int} (h : c ≠ 0) : ErrIs w (some ([], c)) (.iface 40 (.int .i64 c)) := ⟨rfl, h, by simp⟩
theorem RErrIs.code {w : World} {c : Int} (h : c ≠ 0) : RErrIs w (some ([], c)) c (.slice none 0 0) := ⟨rfl, h, Row.nil w⟩
theorem RErrIs.zero {w : World} : RErrIs w none 0 (.slice none 0 0) := ⟨rfl, rfl⟩
theorem ErrIs.ne {w : World} {a : List (ByteArray × Int) × Int} {x : Value} (h : ErrIs w (some a) x) : ∃ t v, x = .iface t v := h.1.ne_nil
theorem same_fall (f : Fall) (x v : Value) (c : Int) (w : World) (hg : EtIs w) (h : ErrIs w f x) (k : RErrIs w f c v) :
 Calls Tryz.prog 17 #[x, .agg #[.int .i64 c, v]] w fun e w' => e = .returned (.bool true) ∧ Ext w w' := by
 cases f with
 | none =>
   obtain rfl := h
   obtain ⟨rfl, rfl⟩ := k
   exact same_nil w hg
 | some a =>
   obtain ⟨p, c'⟩ := a
   obtain ⟨h1, h2, h3⟩ := h
   obtain ⟨rfl, -, k3⟩ := k
   exact same_err p c x v w hg h1 k3 h2 h3
def EPost (w : World) (f : Fall) (e : Ending) (w' : World) : Prop := ∃ x, e = .returned x ∧ Ext w w' ∧ ErrIs w' f x
def ZPost (w : World) (zs : List Int) (f : Fall) (e : Ending) (w' : World) : Prop := ∃ u x, e = .returned (.tuple #[u, x]) ∧ Ext w w' ∧ Ints w' u zs ∧ ErrIs w' f x
def RZPost (w : World) (zs : List Int) (f : Fall) (e : Ending) (w' : World) : Prop := ∃ u c a m k, e = .returned (.tuple #[u, .agg #[.int .i64 c, .slice a m k]]) ∧ Ext w w' ∧ Ints w' u zs ∧ RErrIs w' f c (.slice a m k)
theorem mx2 : ∀ (x y : Int) ts ty W, (Builtin.max_ ts ty #[.int .i64 x, .int .i64 y]).run Tryz.prog W = .ok (.int .i64 (max x y)) W := fun x y ts ty W => by
 have e : max x y = if x < y then y else x := by omega
 simp [Builtin.max_, Builtin.max2, e]
theorem mn2 : ∀ (x y : Int) ts ty W, (Builtin.min_ ts ty #[.int .i64 x, .int .i64 y]).run Tryz.prog W = .ok (.int .i64 (min x y)) W := fun x y ts ty W => by
 have e : min x y = if y < x then y else x := by omega
 simp [Builtin.min_, Builtin.min2, e]
theorem ofInt_nat (n : Nat) : BitVec.ofInt 64 (n : Int) = BitVec.ofNat 64 n := by
 apply BitVec.eq_of_toNat_eq
 simp [BitVec.toNat_ofNat]
def bL (l : List Bool) (p : Nat) : Nat := (l.getD p false).toNat
variable {F : Nat → Prop}
def Bys (w : World) (v : Value) (bs : List Nat) : Prop := Row w v bs.length (bs.map fun x : Nat => Value.int .u8 (x : Int)) ∧ (∀ x ∈ bs, x < 256) ∧ bs.length ≤ 140737488355328
theorem Bys.ext {w w' : World} {v : Value} {bs : List Nat} (h : Bys w v bs) (k : Ext w w') : Bys w' v bs := ⟨h.1.ext k, h.2⟩
theorem Bys.form {w : World} {v : Value} {bs : List Nat} (h : Bys w v bs) : ∃ a cap, v = .slice a bs.length cap := h.1.form
theorem Bys.len {w : World} {a : Option Addr} {n cap : Nat} {bs : List Nat} (h : Bys w (.slice a n cap) bs) : n = bs.length := by
 obtain ⟨a', cap', e, -⟩ := h.1
 simp only [Value.slice.injEq] at e
 exact e.2.1
theorem Bys.had {w : World} {a : Option Addr} {n cap : Nat} {bs : List Nat} (h : Bys w (.slice a n cap) bs) (hn : 0 < n) : ∃ g off, a = some ⟨g, off, none⟩ := by
 have hl := h.len
 obtain ⟨a', cap', e, -, -, h3, -⟩ := h.1
 simp only [Value.slice.injEq] at e
 obtain ⟨rfl, -, -⟩ := e
 exact h3 (by omega)
theorem Bys.at {w : World} {g off n cap : Nat} {bs : List Nat} (h : Bys w (.slice (some ⟨g, off, none⟩) n cap) bs) {j : Nat} {x : Nat} (hj : bs[j]? = some x) : w.cell? ⟨g, off + j, none⟩ = some (.int .u8 (x : Int)) := by
 obtain ⟨a', cap', e, -, -, -, h4⟩ := h.1
 simp only [Value.slice.injEq] at e
 exact h4 g off e.1.symm j _ (by rw [List.getElem?_map, hj]; rfl)
theorem nget_of_lt {bs : List Nat} {j : Nat} (h : j < bs.length) : bs[j]? = some (bs.getD j 0) := by simp [List.getD, h]
theorem cell_off_ne {w : World} {b i j : Nat} (u : Value) (h : i ≠ j) : (w.setCell ⟨b, i, none⟩ u).cell? ⟨b, j, none⟩ = w.cell? ⟨b, j, none⟩ :=
 World.cell?_setCell_other w _ _ u (fun e => h (congrArg Addr.off e))
theorem row_kp {w w' : World} {b : Nat} {a : Option Addr} {n cap : Nat} {N : Nat} {xs : List Value} (h : Row w (.slice a n cap) N xs) (k : Kp b w w') (hb : ∀ g off, a = some ⟨g, off, none⟩ → g ≠ b) : Row w' (.slice a n cap) N xs := by
 obtain ⟨a', cap', e, h1, h2, h3, h4⟩ := h
 simp only [Value.slice.injEq] at e
 obtain ⟨rfl, rfl, rfl⟩ := e
 exact ⟨a, cap, rfl, h1, h2, h3, fun g off ha j u hu => k.cell (h4 g off ha j u hu) (hb g off ha)⟩
theorem infoU8 : (Tryz.prog.info? 5).map (fun i => (i.zero, i.size, i.bytes)) = some (some (.int .u8 0), 1, 1) := by kernel_rfl
def byC (bs : List Nat) : List Value := bs.map fun x : Nat => Value.int .u8 (x : Int)
theorem byC_length (bs : List Nat) : (byC bs).length = bs.length := by simp [byC]
theorem byC_one (bs : List Nat) : ∀ u ∈ byC bs, u.oneCell' = true := fun u hu => by
 obtain ⟨x, _, rfl⟩ := List.mem_map.1 hu
 rfl
theorem news_of_bys {w : World} {g off n cap : Nat} {bs : List Nat} (h : Bys w (.slice (some ⟨g, off, none⟩) n cap) bs) : ∀ j u, (byC bs)[j]? = some u → w.cell? ((⟨g, off, none⟩ : Addr).add j) = some u := fun j u hu => by
 have hadd : (⟨g, off, none⟩ : Addr).add j = ⟨g, off + j, none⟩ := by unfold Addr.add; split <;> simp_all
 unfold byC at hu
 rw [List.getElem?_map] at hu
 obtain ⟨x, hx, rfl⟩ := Option.map_eq_some_iff.1 hu
 rw [hadd]
 exact h.at hx
theorem Bys.of_owns {w : World} {base n : Nat} {v : Value} {bs : List Nat} (h : w.ownsRow base 5 1 v n (byC bs)) (hb : ∀ x ∈ bs, x < 256) (hl : bs.length ≤ 140737488355328) : Bys w v bs := by
 have hn : n = bs.length := by have := h.1; rw [byC_length] at this; omega
 subst hn
 exact ⟨Row.of_owns h, hb, hl⟩
theorem Bys.nil (w : World) : Bys w (.slice none 0 0) [] := ⟨Row.nil w, by simp, by simp⟩
theorem Bys.caps {w : World} {a : Option Addr} {n cap : Nat} {bs : List Nat} (h : Bys w (.slice a n cap) bs) : n ≤ cap ∧ cap ≤ maxLen := by
 obtain ⟨a', cap', e, h1, h2, -, -⟩ := h.1
 simp only [Value.slice.injEq] at e
 obtain ⟨-, rfl, rfl⟩ := e
 exact ⟨h1, h2⟩
def CPost (w : World) (bs : List Nat) (e : Ending) (w' : World) : Prop := ∃ u, e = .returned u ∧ w'.ownsRow w.heap.size 5 1 u bs.length (byC bs) ∧ Ext w w'
set_option maxRecDepth 20000 in
set_option maxHeartbeats 2000000 in
theorem clb_any (bs : List Nat) (v : Value) (w : World) (ha : Bys w v bs) : Calls Tryz.prog 74 #[v] w (CPost w bs) := by
 obtain ⟨i0, hi, hz0, hz1, hz2⟩ := info_parts infoU8
 obtain ⟨n, hn⟩ : ∃ n, n = bs.length := ⟨_, rfl⟩
 have hl := ha.2.2
 have E1 : Ext w (w.alloc (.cells #[] 5)) := (Ext.refl w).alloc _
 have hown : (w.alloc (.cells #[] 5)).ownsRow w.heap.size 5 1 (.slice (some ⟨w.heap.size, 0, none⟩) 0 0) 0 [] := World.ownsRow_made w #[] 0 (Nat.le_refl _) (Nat.zero_le _) rfl
 have fin : ∀ (v' : Value) (w' : World), w'.ownsRow w.heap.size 5 1 v' (0 + n) ([] ++ byC bs) → (w.alloc (.cells #[] 5)).grownBy w' (some w.heap.size) → w'.ownsRow w.heap.size 5 1 v' n (byC bs) ∧ Ext w w' := fun v' w' h1 h2 =>
  ⟨by simpa using h1, Below.grown E1 h2 (by simp) (fun k hk => by cases hk; exact Nat.le_refl _)⟩
 have FIN := Lib.hid fin
 clear fin
 obtain ⟨a, cap, rfl⟩ := ha.form
 rw [← hn] at ha hl
 by_cases hz : n = 0
 · obtain rfl : bs = [] := List.eq_nil_of_length_eq_zero (by omega)
   subst hz
   clear ha hn
   cases a with
   | none =>
     have r1 : ∀ W, (binOp .eql 61 (.slice none 0 cap) (.slice none 0 0)).run Tryz.prog W = .ok (.bool true) W := fun W => Lib.run_eql_slice_nil W _ _ _ 0 cap 0 0 Tryz.underlying61
     go_enter Tryz.func74, Tryz.ntmps74
     go_wp2
     go_ret
     exact ⟨_, rfl, World.ownsRow_nil _ _ _ _, Ext.refl _⟩
   | some a =>
     have r1 : ∀ W, (binOp .eql 61 (.slice (some a) 0 cap) (.slice none 0 0)).run Tryz.prog W = .ok (.bool false) W := fun W => Lib.run_eql_slice_nil W _ _ _ 0 cap 0 0 Tryz.underlying61
     go_enter Tryz.func74, Tryz.ntmps74
     go_wp2_with (at_builtin; refine wpList_append_own _ rfl _ _ 61 rfl w.heap.size 5 i0 (.int .u8 0) 1 1 Tryz.underlying61 hi hz0 hz1 hz2 rfl (by decide) _ 0 [] rfl hown a 0 cap [] rfl rfl (by simp) (by simp) (by decide) (by decide) (by simp) ?_; intro v' w' h1 h2 _)
     go_ret
     obtain ⟨h3, h4⟩ := FIN.out _ _ h1 h2
     exact ⟨_, rfl, h3, h4⟩
 · obtain ⟨g, off, rfl⟩ := ha.had (by omega)
   obtain ⟨c1, c2⟩ := ha.caps
   have hnews := news_of_bys (ha.ext E1)
   have HN := Lib.hid hn
   have HW := Lib.hid hnews
   have r1 : ∀ W, (binOp .eql 61 (.slice (some ⟨g, off, none⟩) n cap) (.slice none 0 0)).run Tryz.prog W = .ok (.bool false) W := fun W => Lib.run_eql_slice_nil W _ _ _ n cap 0 0 Tryz.underlying61
   rw [← hn]
   clear hn hnews hz
   go_enter Tryz.func74, Tryz.ntmps74
   go_wp2_with (at_builtin; refine wpList_append_own _ rfl _ _ 61 rfl w.heap.size 5 i0 (.int .u8 0) 1 1 Tryz.underlying61 hi hz0 hz1 hz2 rfl (by decide) _ 0 [] rfl hown ⟨g, off, none⟩ n cap (byC bs) rfl (by rw [byC_length, HN.out, Nat.mul_one]) HW.out (byC_one bs) (by unfold maxLen; omega) (by omega) (by simp) ?_; intro v' w' h1 h2 _)
   go_ret
   obtain ⟨h3, h4⟩ := FIN.out _ _ h1 h2
   exact ⟨_, rfl, by rw [← HN.out]; exact h3, h4⟩
def sideB (n : Int) : Bool := decide (8 ≤ n) && decide (n ≤ 32) && decide (n % 8 = 0)
def may (W H : Int) (zs : List Int) : Prop := sideB W = true ∧ sideB H = true ∧ (zs.length : Int) = W * H ∧ within 0 255 zs
instance (W H : Int) (zs : List Int) : Decidable (may W H zs) := by unfold may; exact inferInstance
theorem sideB_true {n : Int} (h : sideB n = true) : 8 ≤ n ∧ n ≤ 32 ∧ n % 8 = 0 := by
 unfold sideB at h
 simp at h
 omega
theorem sideB_cases {n : Int} (h : sideB n = true) : n = 8 ∨ n = 16 ∨ n = 24 ∨ n = 32 := by
 have := sideB_true h
 omega
theorem may_area {W H : Int} {zs : List Int} (h : may W H zs) : 64 ≤ W * H ∧ W * H ≤ 1024 := by
 rcases sideB_cases h.1 with rfl | rfl | rfl | rfl <;> rcases sideB_cases h.2.1 with rfl | rfl | rfl | rfl <;> decide
theorem side_area {W H : Int} (h : sideB W = true) (k : sideB H = true) : 64 ≤ W * H ∧ W * H ≤ 1024 := by
 rcases sideB_cases h with rfl | rfl | rfl | rfl <;> rcases sideB_cases k with rfl | rfl | rfl | rfl <;> decide
theorem side_any (n : Int) (w : World) : Calls Tryz.prog 55 #[.int .i64 n] w fun e w' => e = .returned (.bool (sideB n)) ∧ w = w' := by
 by_cases h1 : 8 ≤ n
 · by_cases h2 : n ≤ 32
   · by_cases h3 : n % 8 = 0
     · have hs : sideB n = true := by unfold sideB; simp [h1, h2, h3]
       have H := Lib.hid hs
       clear hs
       go_enter Tryz.func55, Tryz.ntmps55
       go_wp2
       go_ret
       exact ⟨by rw [H.out]; rfl, rfl⟩
     · have hs : sideB n = false := by unfold sideB; simp [h3]
       have b1 : (n % 8 == 0) = false := by simpa using h3
       have H := Lib.hid hs
       clear hs h3
       go_enter Tryz.func55, Tryz.ntmps55
       go_wp2
       go_ret
       exact ⟨by rw [H.out]; rfl, rfl⟩
   · have hs : sideB n = false := by unfold sideB; simp [h2]
     have H := Lib.hid hs
     clear hs
     go_enter Tryz.func55, Tryz.ntmps55
     go_wp2
     go_ret
     exact ⟨by rw [H.out]; rfl, rfl⟩
 · have hs : sideB n = false := by unfold sideB; simp [h1]
   have H := Lib.hid hs
   clear hs
   go_enter Tryz.func55, Tryz.ntmps55
   go_wp2
   go_ret
   exact ⟨by rw [H.out]; rfl, rfl⟩
theorem rside_any (n : Int) (w : World) : Calls Tryz.prog 58 #[.int .i64 n] w fun e w' => e = .returned (.bool (sideB n)) ∧ w = w' := by
 by_cases h1 : 8 ≤ n
 · by_cases h2 : n ≤ 32
   · by_cases h3 : n % 8 = 0
     · have hs : sideB n = true := by unfold sideB; simp [h1, h2, h3]
       have H := Lib.hid hs
       clear hs
       go_enter Tryz.func58, Tryz.ntmps58
       go_wp2
       go_ret
       exact ⟨by rw [H.out]; rfl, rfl⟩
     · have hs : sideB n = false := by unfold sideB; simp [h3]
       have b1 : (n % 8 == 0) = false := by simpa using h3
       have H := Lib.hid hs
       clear hs h3
       go_enter Tryz.func58, Tryz.ntmps58
       go_wp2
       go_ret
       exact ⟨by rw [H.out]; rfl, rfl⟩
   · have hs : sideB n = false := by unfold sideB; simp [h2]
     have H := Lib.hid hs
     clear hs
     go_enter Tryz.func58, Tryz.ntmps58
     go_wp2
     go_ret
     exact ⟨by rw [H.out]; rfl, rfl⟩
 · have hs : sideB n = false := by unfold sideB; simp [h1]
   have H := Lib.hid hs
   clear hs
   go_enter Tryz.func58, Tryz.ntmps58
   go_wp2
   go_ret
   exact ⟨by rw [H.out]; rfl, rfl⟩
def smpB (n : Int) : Bool := decide (0 ≤ n) && decide (n ≤ 255)
theorem smp_any (n : Int) (w : World) : Calls Tryz.prog 56 #[.int .i64 n] w fun e w' => e = .returned (.bool (smpB n)) ∧ w = w' := by
 by_cases h1 : 0 ≤ n
 · by_cases h2 : n ≤ 255
   · have H : Hid (smpB n = true) := by show _ = _; unfold smpB; simp [h1, h2]
     go_enter Tryz.func56, Tryz.ntmps56
     go_wp2
     go_ret
     exact ⟨by rw [H.out]; rfl, rfl⟩
   · have H : Hid (smpB n = false) := by show _ = _; unfold smpB; simp [h2]
     go_enter Tryz.func56, Tryz.ntmps56
     go_wp2
     go_ret
     exact ⟨by rw [H.out]; rfl, rfl⟩
 · have H : Hid (smpB n = false) := by show _ = _; unfold smpB; simp [h1]
   go_enter Tryz.func56, Tryz.ntmps56
   go_wp2
   go_ret
   exact ⟨by rw [H.out]; rfl, rfl⟩
def clipI (n : Int) : Int := max 0 (min n 255)
theorem clip_any (n : Int) (w : World) : Calls Tryz.prog 133 #[.int .i64 n] w fun e w' => e = .returned (.int .i64 (clipI n)) ∧ w = w' := by
 have r1 := mx2
 have r2 := mn2
 go_enter Tryz.func133, Tryz.ntmps133
 go_wp2
 go_ret
 exact ⟨rfl, rfl⟩
theorem rclip_any (n : Int) (w : World) : Calls Tryz.prog 100 #[.int .i64 n] w fun e w' => e = .returned (.int .i64 (clipI n)) ∧ w = w' := by
 have r1 := mx2
 have r2 := mn2
 have e : min (max n 0) 255 = clipI n := by unfold clipI; omega
 have H := Lib.hid e
 clear e
 go_enter Tryz.func100, Tryz.ntmps100
 go_wp2
 go_ret
 exact ⟨by rw [← H.out]; rfl, rfl⟩
set_option maxRecDepth 20000 in
set_option maxHeartbeats 1000000 in
theorem may_any (W H : Int) (zs : List Int) (a : Option Addr) (n cap : Nat) (w : World) (h : Ints w (.slice a n cap) zs) :
 Calls Tryz.prog 26 #[.agg #[.int .i64 W, .int .i64 H, .slice a n cap]] w fun e w' => e = .returned (.bool (decide (may W H zs))) ∧ Ext w w' := by
 have E1 : Ext w (w.alloc (.cells #[.int .i64 W, .int .i64 H, .slice a n cap] 24)) := (Ext.refl w).alloc _
 have HN := Lib.hid h.len
 cases hs : sideB W with
 | false =>
   have HR : Hid (decide (may W H zs) = false) := by show _ = _; simp [may, hs]
   go_enter Tryz.func26, Tryz.ntmps26
   go_wp2_with (go_at_call 55; refine (side_any _ _).mono ?_; rintro e w' ⟨rfl, rfl⟩)
   go_ret
   exact ⟨by rw [HR.out]; rfl, E1⟩
 | true =>
   cases ht : sideB H with
   | false =>
     have HR : Hid (decide (may W H zs) = false) := by show _ = _; simp [may, ht]
     go_enter Tryz.func26, Tryz.ntmps26
     go_wp2_with (go_at_call 55; refine (side_any _ _).mono ?_; rintro e w' ⟨rfl, rfl⟩)
     go_ret
     exact ⟨by rw [HR.out]; rfl, E1⟩
   | true =>
     obtain ⟨b1, b2⟩ := side_area hs ht
     by_cases hl : (n : Int) = W * H
     · have HL := Lib.hid hl
       have hl2 : ((n : Int) != W * H) = false := by simpa using hl
       have hn0 : 0 < n ∧ n ≤ 1024 := by omega
       clear hl
       obtain ⟨hn0, hn1⟩ := hn0
       have HS : Hid (sideB W = true ∧ sideB H = true) := ⟨hs, ht⟩
       obtain ⟨g, off, rfl⟩ := h.had hn0
       go_enter Tryz.func26, Tryz.ntmps26
       go_wp2_with (go_at_call 55; refine (side_any _ _).mono ?_; rintro e w' ⟨rfl, rfl⟩)
       go_loop [29] (fun i => ∃ k : Nat, k ≤ n ∧ i = .int .i64 k ∧ Hid (∀ j x, j < k → zs[j]? = some x → 0 ≤ x ∧ x ≤ 255)) (fun i => n - (intOf i).toNat)
       case atStart => exact ⟨0, Nat.zero_le _, rfl, fun j _ hj => absurd hj (Nat.not_lt_zero _)⟩
       case round =>
        obtain ⟨k, hk, rfl, HJ⟩ := hrel
        by_cases hlt : k < n
        · obtain ⟨x, hx⟩ : ∃ x, zs[k]? = some x := ⟨_, List.getElem?_eq_getElem (by rw [← HN.out]; exact hlt)⟩
          have cx := E1.cell (h.at hx)
          have HX := Lib.hid hx
          clear hx
          cases hb : smpB x with
          | true =>
            have HB := Lib.hid hb
            go_wp2_with (go_at_call 56; refine (smp_any _ _).mono ?_; rintro e w' ⟨rfl, rfl⟩)
            go_round
            case rel => exact ⟨k + 1, by omega, by go_num, fun j y hj hy => by
             by_cases hjk : j = k
             · subst hjk
               have : x = y := Option.some.inj (HX.out.symm.trans hy)
               have h2 := HB.out
               unfold smpB at h2
               simp at h2
               omega
             · exact HJ.out j y (by omega) hy⟩
            case measure => simp [intOf]; omega
          | false =>
            have HB := Lib.hid hb
            go_wp2_with (go_at_call 56; refine (smp_any _ _).mono ?_; rintro e w' ⟨rfl, rfl⟩)
            go_ret
            refine ⟨?_, E1⟩
            have : ¬ may W H zs := fun hm => by
             have h1 := hm.2.2.2.at HX.out
             have h2 := HB.out
             unfold smpB at h2
             simp at h2
             omega
            rw [decide_eq_false this]; rfl
        · go_wp2
          go_ret
          refine ⟨?_, E1⟩
          have : may W H zs := ⟨HS.out.1, HS.out.2, by rw [← HN.out]; exact HL.out, within_of_gets fun j x hj hx => HJ.out j x (by rw [← HN.out] at hj; omega) hx⟩
          rw [decide_eq_true this]; rfl
     · have HR : Hid (decide (may W H zs) = false) := by show _ = _; rw [decide_eq_false (fun hm => hl (by rw [HN.out]; exact hm.2.2.1))]
       have hl2 : ((n : Int) != W * H) = true := by simpa using hl
       clear hl
       go_enter Tryz.func26, Tryz.ntmps26
       go_wp2_with (go_at_call 55; refine (side_any _ _).mono ?_; rintro e w' ⟨rfl, rfl⟩)
       go_ret
       exact ⟨by rw [HR.out]; rfl, E1⟩
def IdxPost (w : World) (b : Bool) (e : Ending) (w' : World) : Prop := ∃ i : Int, e = .returned (.int .i64 i) ∧ decide (0 ≤ i) = b ∧ w = w'
def nzB (x : Int) : Bool := decide (x ≠ 0)
def nosmpB (x : Int) : Bool := decide (x < 0) || decide (255 < x)
theorem any_of_get {zs : List Int} {p : Int → Bool} {k : Nat} {x : Int} (h : zs[k]? = some x) (hp : p x = true) : zs.any p = true := List.any_eq_true.2 ⟨x, List.mem_of_getElem? h, hp⟩
theorem any_no {zs : List Int} {p : Int → Bool} (h : ∀ j x, j < zs.length → zs[j]? = some x → p x = false) : zs.any p = false := by
 rw [Bool.eq_false_iff]
 intro ht
 obtain ⟨x, hx, hp⟩ := List.any_eq_true.1 ht
 obtain ⟨j, hj, e⟩ := List.mem_iff_getElem.1 hx
 have := h j x hj (by rw [List.getElem?_eq_getElem hj, e])
 rw [this] at hp
 cases hp
theorem nzB_call (n : Int) (w : World) : Calls Tryz.prog 176 #[.int .i64 n] w fun e w' => e = .returned (.bool (nzB n)) ∧ w = w' := by
 by_cases h1 : n = 0
 · have H : Hid (nzB n = false) := by show _ = _; unfold nzB; simp [h1]
   have b1 : (n != 0) = false := by simpa using h1
   clear h1
   go_enter Tryz.func176, Tryz.ntmps176
   go_wp2
   go_ret
   exact ⟨by rw [H.out]; rfl, rfl⟩
 · have H : Hid (nzB n = true) := by show _ = _; unfold nzB; simp [h1]
   have b1 : (n != 0) = true := by simpa using h1
   clear h1
   go_enter Tryz.func176, Tryz.ntmps176
   go_wp2
   go_ret
   exact ⟨by rw [H.out]; rfl, rfl⟩
theorem nosmpB_call (n : Int) (w : World) : Calls Tryz.prog 163 #[.int .i64 n] w fun e w' => e = .returned (.bool (nosmpB n)) ∧ w = w' := by
 have H : Hid ((n != clipI n) = nosmpB n) := by
  show _ = _
  unfold nosmpB clipI
  rw [Bool.eq_iff_iff]
  simp only [bne_iff_ne, ne_eq, Bool.or_eq_true, decide_eq_true_eq]
  omega
 go_enter Tryz.func163, Tryz.ntmps163
 go_wp2_with fail
 refine (clip_any _ _).mono ?_; rintro e w1 ⟨rfl, rfl⟩
 go_wp2
 go_ret
 exact ⟨by rw [← H.out]; rfl, rfl⟩
set_option maxRecDepth 20000 in
set_option maxHeartbeats 1000000 in
theorem nzB_idx (zs : List Int) (v : Value) (w : World) (ha : Ints w v zs) :
 Calls Tryz.prog 129 #[v, .func (.func 176) #[] #[]] w (IdxPost w (zs.any nzB)) := by
 obtain ⟨a, cap, rfl⟩ := ha.form
 obtain ⟨n, hn⟩ : ∃ n, n = zs.length := ⟨_, rfl⟩
 have hle := ha.2
 rw [← hn] at ha hle ⊢
 have AG := Lib.hid ha.had
 have HN := Lib.hid hn
 clear hn
 go_enter Tryz.func129, Tryz.ntmps129
 go_wp2
 go_loop [8] (fun i => ∃ k : Nat, k ≤ n ∧ i = .int .i64 k ∧ Hid (∀ j x, j < k → zs[j]? = some x → nzB x = false)) (fun i => n - (intOf i).toNat)
 case atStart => exact ⟨0, Nat.zero_le _, rfl, fun j _ hj => absurd hj (Nat.not_lt_zero _)⟩
 case round =>
  obtain ⟨k, hk, rfl, HJ⟩ := hrel
  by_cases hlt : k < n
  · obtain ⟨x, hx⟩ : ∃ x, zs[k]? = some x := ⟨_, List.getElem?_eq_getElem (by rw [← HN.out]; exact hlt)⟩
    obtain ⟨g, off, rfl⟩ := AG.out (by omega)
    have cx := ha.at hx
    have HX := Lib.hid hx
    clear hx
    cases hb : nzB x with
    | true =>
      have HB := Lib.hid hb
      go_wp2_with (go_at_call 176; refine (nzB_call _ _).mono ?_; rintro e w' ⟨rfl, rfl⟩)
      go_ret
      exact ⟨_, rfl, by rw [any_of_get HX.out HB.out]; simp, rfl⟩
    | false =>
      have HB := Lib.hid hb
      go_wp2_with (go_at_call 176; refine (nzB_call _ _).mono ?_; rintro e w' ⟨rfl, rfl⟩)
      go_round
      case rel => exact ⟨k + 1, by omega, by go_num, fun j y hj hy => by
       by_cases hjk : j = k
       · subst hjk
         obtain rfl : x = y := Option.some.inj (HX.out.symm.trans hy)
         exact HB.out
       · exact HJ.out j y (by omega) hy⟩
      case measure => simp [intOf]; omega
  · go_wp2
    go_ret
    refine ⟨_, rfl, ?_, rfl⟩
    rw [any_no (fun j x hj hx => HJ.out j x (by rw [← HN.out] at hj; omega) hx)]
    rfl
theorem nzB_has (zs : List Int) (v : Value) (w : World) (ha : Ints w v zs) :
 Calls Tryz.prog 90 #[v, .func (.func 176) #[] #[]] w fun e w' => e = .returned (.bool (zs.any nzB)) ∧ w = w' := by
 have H := Lib.hid (nzB_idx zs v w ha)
 clear ha
 go_enter Tryz.func90, Tryz.ntmps90
 go_wp2_with fail
 refine (H.out).mono ?_; rintro e w1 ⟨i, rfl, hi, rfl⟩
 have HI := Lib.hid hi
 clear hi
 go_wp2
 go_ret
 exact ⟨by rw [← HI.out]; rfl, rfl⟩
set_option maxRecDepth 20000 in
set_option maxHeartbeats 1000000 in
theorem nosmpB_idx (zs : List Int) (v : Value) (w : World) (ha : Ints w v zs) :
 Calls Tryz.prog 129 #[v, .func (.func 163) #[] #[]] w (IdxPost w (zs.any nosmpB)) := by
 obtain ⟨a, cap, rfl⟩ := ha.form
 obtain ⟨n, hn⟩ : ∃ n, n = zs.length := ⟨_, rfl⟩
 have hle := ha.2
 rw [← hn] at ha hle ⊢
 have AG := Lib.hid ha.had
 have HN := Lib.hid hn
 clear hn
 go_enter Tryz.func129, Tryz.ntmps129
 go_wp2
 go_loop [8] (fun i => ∃ k : Nat, k ≤ n ∧ i = .int .i64 k ∧ Hid (∀ j x, j < k → zs[j]? = some x → nosmpB x = false)) (fun i => n - (intOf i).toNat)
 case atStart => exact ⟨0, Nat.zero_le _, rfl, fun j _ hj => absurd hj (Nat.not_lt_zero _)⟩
 case round =>
  obtain ⟨k, hk, rfl, HJ⟩ := hrel
  by_cases hlt : k < n
  · obtain ⟨x, hx⟩ : ∃ x, zs[k]? = some x := ⟨_, List.getElem?_eq_getElem (by rw [← HN.out]; exact hlt)⟩
    obtain ⟨g, off, rfl⟩ := AG.out (by omega)
    have cx := ha.at hx
    have HX := Lib.hid hx
    clear hx
    cases hb : nosmpB x with
    | true =>
      have HB := Lib.hid hb
      go_wp2_with (go_at_call 163; refine (nosmpB_call _ _).mono ?_; rintro e w' ⟨rfl, rfl⟩)
      go_ret
      exact ⟨_, rfl, by rw [any_of_get HX.out HB.out]; simp, rfl⟩
    | false =>
      have HB := Lib.hid hb
      go_wp2_with (go_at_call 163; refine (nosmpB_call _ _).mono ?_; rintro e w' ⟨rfl, rfl⟩)
      go_round
      case rel => exact ⟨k + 1, by omega, by go_num, fun j y hj hy => by
       by_cases hjk : j = k
       · subst hjk
         obtain rfl : x = y := Option.some.inj (HX.out.symm.trans hy)
         exact HB.out
       · exact HJ.out j y (by omega) hy⟩
      case measure => simp [intOf]; omega
  · go_wp2
    go_ret
    refine ⟨_, rfl, ?_, rfl⟩
    rw [any_no (fun j x hj hx => HJ.out j x (by rw [← HN.out] at hj; omega) hx)]
    rfl
theorem nosmpB_has (zs : List Int) (v : Value) (w : World) (ha : Ints w v zs) :
 Calls Tryz.prog 90 #[v, .func (.func 163) #[] #[]] w fun e w' => e = .returned (.bool (zs.any nosmpB)) ∧ w = w' := by
 have H := Lib.hid (nosmpB_idx zs v w ha)
 clear ha
 go_enter Tryz.func90, Tryz.ntmps90
 go_wp2_with fail
 refine (H.out).mono ?_; rintro e w1 ⟨i, rfl, hi, rfl⟩
 have HI := Lib.hid hi
 clear hi
 go_wp2
 go_ret
 exact ⟨by rw [← HI.out]; rfl, rfl⟩
def zigLo (n s : Nat) : Nat := s + 1 - n
def zigHi (n s : Nat) : Nat := min s (n - 1)
def zigAt (n s i : Nat) : Nat := let y := if s % 2 = 0 then zigHi n s - (i - zigLo n s) else i; y * n + s - y
def zigDiag (n s k : Nat) : List Nat := (List.range (k - zigLo n s)).map fun i => zigAt n s (zigLo n s + i)
def zigPre (n s : Nat) : List Nat := (List.range s).flatMap fun s => zigDiag n s (zigHi n s + 1)
theorem zig_len : (zigPre 4 7).length = 16 ∧ (zigPre 8 15).length = 64 := by decide +kernel
theorem zig_once : (zigPre 4 7).Nodup ∧ (zigPre 8 15).Nodup ∧ (∀ x ∈ zigPre 4 7, x < 16) ∧ (∀ x ∈ zigPre 8 15, x < 64) := by decide +kernel
theorem zigDiag_succ {n s k : Nat} (h : zigLo n s ≤ k) : zigDiag n s (k + 1) = zigDiag n s k ++ [zigAt n s k] := by
 unfold zigDiag
 rw [show k + 1 - zigLo n s = (k - zigLo n s) + 1 by omega, List.range_succ, List.map_append]
 simp only [List.map_cons, List.map_nil]
 rw [show zigLo n s + (k - zigLo n s) = k by omega]
theorem zigPre_succ (n s : Nat) : zigPre n (s + 1) = zigPre n s ++ zigDiag n s (zigHi n s + 1) := by
 unfold zigPre
 rw [List.range_succ, List.flatMap_append]
 simp
open Go.RowKit Go.Sort
def rowA (N : Nat) (f : Nat → Int) : Array Int := Array.ofFn (fun i : Fin N => f i)
theorem rowA_size (N : Nat) (f : Nat → Int) : (rowA N f).size = N := by simp [rowA]
theorem rowA_get {N : Nat} {f : Nat → Int} {j : Nat} (h : j < N) : (rowA N f)[j]! = f j := by
 rw [getElem!_pos _ _ (by rw [rowA_size]; exact h)]
 simp [rowA]
theorem rowA_set {N : Nat} {f : Nat → Int} {i : Nat} {x : Int} : (rowA N f).setIfInBounds i x = rowA N (fun j => if j = i then x else f j) := by
 apply Array.ext_getElem?
 intro j
 rw [Array.getElem?_setIfInBounds]
 by_cases hj : j < N
 · by_cases h : i = j
   · subst h; simp [rowA, hj]
   · have h' : ¬ j = i := fun e => h e.symm
     simp [rowA, hj, h, h']
 · by_cases h : i = j
   · subst h; simp [rowA, hj]
   · simp [rowA, hj, h]
theorem rowA_congr {N : Nat} {f g : Nat → Int} (h : ∀ j, j < N → f j = g j) : rowA N f = rowA N g := by
 apply Array.ext
 · simp [rowA]
 · intro j h1 h2
   simp only [rowA, Array.getElem_ofFn]
   exact h j (by simpa [rowA] using h1)
def rowL (N : Nat) (f : Nat → Int) : List Int := (List.range N).map f
theorem rowL_length (N : Nat) (f : Nat → Int) : (rowL N f).length = N := by simp [rowL]
theorem rowL_get {N : Nat} {f : Nat → Int} {j : Nat} (h : j < N) : (rowL N f)[j]? = some (f j) := by simp [rowL, h]
theorem rowL_arr (N : Nat) (f : Nat → Int) : (rowL N f).toArray = rowA N f := by
 apply Array.ext_getElem?
 intro j
 by_cases h : j < N <;> simp [rowL, rowA, h]
theorem rowL_getD (zs : List Int) : rowL zs.length (fun i => zs.getD i 0) = zs := by
 apply List.ext_getElem?
 intro j
 by_cases h : j < zs.length <;> simp [rowL, h]
theorem Ints.of_row {w : World} {base N : Nat} {v : Value} {f : Nat → Int} (h : w.ownsRow base 3 1 v N ((rowL N f).map (Value.int .i64))) (hN : N ≤ 1000000) : Ints w v (rowL N f) := Ints.of_owns h (by rw [rowL_length]; omega)
theorem one_set {w : World} {blk N q k : Nat} {f : Nat → Int} {x : Int} (hk : k < N) :
 ((putRow (Value.int .i64) w blk 0 (rowA N f)).drewN q).setCell ⟨blk, k, none⟩ (.int .i64 x) = (putRow (Value.int .i64) w blk 0 (rowA N (fun i => if i = k then x else f i))).drewN q := by
 have e1 := putRow_set (Value.int .i64) w blk 0 (rowA N f) k x (by rw [rowA_size]; exact hk)
 rw [← rowA_set, ← e1]
 simp only [Nat.zero_add]
 rfl
theorem own_form {w : World} {base N : Nat} {v : Value} {f : Nat → Int} (h : w.ownsRow base 3 1 v N ((rowL N f).map (Value.int .i64))) (hN : 1 ≤ N) : ∃ g cap, v = .slice (some ⟨g, 0, none⟩) N cap ∧ base ≤ g ∧ g < w.heap.size ∧ N ≤ cap ∧ cap ≤ maxLen := by
 obtain ⟨g, cap', e, hg, hgl, hc1, hc2, -, -⟩ := Lib.holds_of_ownsRow (enc := Value.int .i64) h (by
  rintro rfl
  rcases h.2 with ⟨_, h0⟩ | ⟨_, _, _, h0, _⟩
  · omega
  · cases h0)
 exact ⟨g, cap', e, hg, hgl, hc1, hc2⟩
theorem own_holds {w : World} {base g cap N : Nat} {f : Nat → Int} (h : w.ownsRow base 3 1 (.slice (some ⟨g, 0, none⟩) N cap) N ((rowL N f).map (Value.int .i64))) : Holds (Value.int .i64) w g 0 (rowA N f) := by
 obtain ⟨g', cap', e, -, -, -, -, -, hH⟩ := Lib.holds_of_ownsRow (enc := Value.int .i64) h (by intro e; cases e)
 simp only [Value.slice.injEq, Option.some.injEq, Addr.mk.injEq, and_true, true_and] at e
 obtain ⟨rfl, rfl⟩ := e
 rwa [rowL_arr] at hH
theorem own_cell {w : World} {base g cap N k : Nat} {f : Nat → Int} (h : w.ownsRow base 3 1 (.slice (some ⟨g, 0, none⟩) N cap) N ((rowL N f).map (Value.int .i64))) (hk : k < N) : w.cell? ⟨g, k, none⟩ = some (.int .i64 (f k)) ∧ w.frozen? ⟨g, k, none⟩ = false := by
 obtain ⟨ck, fk⟩ := own_holds h k (by rw [rowA_size]; exact hk)
 rw [rowA_get hk] at ck
 exact ⟨by simpa using ck, by simpa using fk⟩
theorem own_set {w : World} {base g cap N k : Nat} {f : Nat → Int} {x : Int} (h : w.ownsRow base 3 1 (.slice (some ⟨g, 0, none⟩) N cap) N ((rowL N f).map (Value.int .i64))) (hk : k < N) :
 (w.setCell ⟨g, k, none⟩ (.int .i64 x)).ownsRow base 3 1 (.slice (some ⟨g, 0, none⟩) N cap) N ((rowL N (fun i => if i = k then x else f i)).map (Value.int .i64)) := by
 have e := one_set (w := w) (blk := g) (q := 0) (f := f) (x := x) hk
 rw [putRow_self _ _ _ _ _ (own_holds h)] at e
 have ho := Lib.ownsRow_putRow (q := 0) (k := N) h (rowL_length N (fun i => if i = k then x else f i)) (Nat.le_refl _)
 rw [List.take_of_length_le (by rw [rowL_length]; exact Nat.le_refl _), rowL_arr] at ho
 rw [show w.setCell ⟨g, k, none⟩ (.int .i64 x) = putRow (Value.int .i64) (Sort.ahead w 0) g 0 (rowA N (fun i => if i = k then x else f i)) from e]
 exact ho
theorem own_ext {w w' : World} {base : Nat} {e : TypeId} {size n : Nat} {v : Value} {xs : List Value} (h : w.ownsRow base e size v n xs) (k : Ext w w') : w'.ownsRow base e size v n xs := by
 obtain ⟨hl, h⟩ := h
 refine ⟨hl, ?_⟩
 rcases h with h | ⟨g, cap, cur, rfl, hb, hg, h⟩
 · exact Or.inl h
 · have hlt : g < w.heap.size := by
    rcases Nat.lt_or_ge g w.heap.size with h' | h'
    · exact h'
    · rw [Array.getElem?_eq_none h'] at hg; cases hg
   exact Or.inr ⟨g, cap, cur, rfl, hb, (k.block hlt).trans hg, h⟩
def fit : Fall := some ([], 14)
def range : Fall := some ([], 3)
theorem any_false {zs : List Int} {p : Int → Bool} (h : zs.any p = false) (j : Nat) (d : Int) (hd : p d = false) : p (zs.getD j d) = false := by
 by_cases hj : j < zs.length
 · have hm : zs.getD j d ∈ zs := by simp [List.getD, hj]
   cases hp : p (zs.getD j d) with
   | false => rfl
   | true => rw [List.any_eq_true.2 ⟨_, hm, hp⟩] at h; cases h
 · simpa [List.getD, List.getElem?_eq_none (Nat.not_lt.1 hj)] using hd
theorem getD_of_get {zs : List Int} {j : Nat} {x : Int} (h : zs[j]? = some x) : zs.getD j 0 = x := by simp [List.getD, h]
theorem get_of_lt {zs : List Int} {j : Nat} (h : j < zs.length) : zs[j]? = some (zs.getD j 0) := by simp [List.getD, h]
theorem zeros_rowb (n : Nat) : (madeCells (Value.int .i64 0).cells (n * 1)).toList = (rowL n fun _ => 0).map (Value.int .i64) := by
 apply List.ext_getElem?
 intro j
 by_cases hj : j < n <;> simp [madeCells, rowL, Value.cells, hj, Nat.mod_one]
def addF (x y : Int) : Int := clipI (x + y)
theorem zero_any (xs : List Int) (v : Value) (w : World) (ha : Ints w v xs) :
 Calls Tryz.prog 168 #[v] w fun e w' => e = .returned (.bool (!xs.any nzB)) ∧ w = w' := by
 have H := Lib.hid (nzB_has xs v w ha)
 clear ha
 go_enter Tryz.func168, Tryz.ntmps168
 go_wp2_with fail
 refine (H.out).mono ?_; rintro e w1 ⟨rfl, rfl⟩
 go_wp2
 go_ret
 exact ⟨rfl, rfl⟩
def natC (l : List Nat) : List Value := l.map fun (x : Nat) => Value.int .i64 (x : Int)
theorem natC_append (a b : List Nat) : natC (a ++ b) = natC a ++ natC b := by simp [natC]
def intsOf (l : List Nat) : List Int := l.map fun (x : Nat) => (x : Int)
theorem natC_ints (l : List Nat) : natC l = (intsOf l).map (Value.int .i64) := by simp [natC, intsOf]
theorem zigPre_len4 : ∀ s < 7, (zigPre 4 s).length ≤ 16 ∧ zigLo 4 s ≤ zigHi 4 s ∧ zigHi 4 s < 4 := by decide +kernel
set_option maxHeartbeats 4000000 in
set_option maxRecDepth 20000 in
theorem ordown_4 (w : World) : Calls Tryz.prog 169 #[.int .i64 4] w fun e w' => ∃ u, e = .returned u ∧ Ext w w' ∧ w'.ownsRow w.heap.size 3 1 u (zigPre 4 7).length (natC (zigPre 4 7)) := by
 obtain ⟨i0, hi, hz0, hz1, hz2⟩ := info_parts infoInt
 have r1 := mx2
 have r2 := mn2
 go_enter Tryz.func169, Tryz.ntmps169
 go_wp2_with (at_make; refine wpList_make_own _ rfl _ _ 22 rfl w.heap.size 3 i0 (.int .i64 0) 1 Tryz.underlying22 hi hz0 hz1 .i64 .i64 _ 16 rfl rfl rfl (by rw [hz2]; omega) (by unfold maxLen; omega) (Nat.le_refl _) ?_; intro w2 hown hgrow)
 have hE : Ext w w2 := Below.grown (Ext.refl w) hgrow (Nat.le_refl _) (fun k hk => by cases hk)
 have hB := hE.size
 clear hgrow hi hz0 hz1 hz2
 go_wp2
 go_loopw [3, 22] (fun v sv wr => ∃ s : Nat, s ≤ 7 ∧ sv = .int .i64 s ∧ Hid (wr.ownsRow w.heap.size 3 1 v (zigPre 4 s).length (natC (zigPre 4 s))) ∧ Ext w wr) (fun _ sv _ => 7 - (intOf sv).toNat)
 case atStart => exact ⟨0, Nat.zero_le _, rfl, hown, hE⟩
 case round =>
  clear hown hE hB
  obtain ⟨s, hs, rfl, HO, hE⟩ := hrel
  by_cases hlt : s < 7
  · obtain ⟨q1, q2, q3⟩ := zigPre_len4 s hlt
    have q4 := (zigPre_len4 s hlt).1
    obtain ⟨lo, hlo⟩ : ∃ lo, lo = zigLo 4 s := ⟨_, rfl⟩
    obtain ⟨hi, hhi⟩ : ∃ hi, hi = zigHi 4 s := ⟨_, rfl⟩
    have e5 : max 0 ((s : Int) - 4 + 1) = (lo : Int) := by rw [hlo]; unfold zigLo; omega
    have t1 : decide ((s : Int) < 7) = true := decide_eq_true (by omega)
    have e6 : min (s : Int) 3 = (hi : Int) := by rw [hhi]; unfold zigHi; omega
    have f1 : (s : Int) - 4 + 1 ≤ lo := by omega
    have f2 : (hi : Int) ≤ s := by omega
    have f3 : lo ≤ hi := by rw [hlo, hhi]; exact q2
    have f4 : hi < 4 := by rw [hhi]; exact q3
    have HLO := Lib.hid hlo
    have HHI := Lib.hid hhi
    clear hlo hhi q2 q3
    obtain ⟨L, hL⟩ : ∃ L, L = (zigPre 4 s).length := ⟨_, rfl⟩
    rw [← hL] at q1 HO
    have HL := Lib.hid hL
    clear hL
    go_wp2
    go_loopw [3, 7] (fun v iv wr => ∃ i : Nat, lo ≤ i ∧ i ≤ hi + 1 ∧ iv = .int .i64 i ∧ Hid (wr.ownsRow w.heap.size 3 1 v (L + (i - lo)) (natC (zigPre 4 s ++ zigDiag 4 s i))) ∧ Ext w wr) (fun _ iv _ => hi + 1 - (intOf iv).toNat)
    case atStart => exact ⟨lo, Nat.le_refl _, by omega, rfl, by
     show World.ownsRow _ _ _ _ _ _ _
     have h : World.ownsRow _ _ _ _ _ _ _ := HO.out
     rw [show zigDiag 4 s lo = [] by unfold zigDiag; rw [HLO.out, Nat.sub_self]; rfl, List.append_nil, Nat.sub_self]
     exact h, hE⟩
    case round =>
     clear HO hE
     obtain ⟨i, hi1, hi2, rfl, HO, hE⟩ := hrel
     have hB := hE.size
     by_cases hik : i ≤ hi
     · have HS : Hid (natC (zigPre 4 s ++ zigDiag 4 s (i + 1)) = natC (zigPre 4 s ++ zigDiag 4 s i) ++ [.int .i64 ((zigAt 4 s i : Nat) : Int)]) := by
        show _ = _
        rw [zigDiag_succ (by rw [← HLO.out]; exact hi1), ← List.append_assoc, natC_append (_ ++ _)]
        rfl
       by_cases hp : s % 2 = 0
       · have b2 : ((s : Int) % 2 == 0) = true := by simp; omega
         have HA : Hid (((zigAt 4 s i : Nat) : Int) = ((hi : Int) - (i - lo)) * 4 + s - ((hi : Int) - (i - lo))) := by
          show _ = _
          unfold zigAt
          rw [if_pos hp, ← HLO.out, ← HHI.out]
          simp only
          omega
         clear hp
         go_wp2_with (at_builtin; refine push_int rfl _ _ 22 rfl Tryz.underlying22 _ _ _ _ rfl HO.out (by show Value.slice (some ⟨wr.heap.size, 0, none⟩) 1 1 = _; simp) hB (by omega) ?_; intro v' w7 h1 h2)
         have HO7 := Lib.hid h1
         have hE7 := hE.of_below h2 (Nat.le_refl _)
         clear h1 h2 HO hE
         go_wp2
         go_roundw
         case rel => exact ⟨i + 1, by omega, by omega, by go_num, by
          show World.ownsRow _ _ _ _ _ _ _
          rw [HS.out, HA.out, show L + (i + 1 - lo) = L + (i - lo) + 1 by omega]
          exact HO7.out, hE7⟩
         case measure => simp [intOf]; omega
       · have b2 : ((s : Int) % 2 == 0) = false := by simp; omega
         have HA : Hid (((zigAt 4 s i : Nat) : Int) = (i : Int) * 4 + s - i) := by
          show _ = _
          unfold zigAt
          rw [if_neg hp]
          simp only
          omega
         clear hp
         go_wp2_with (at_builtin; refine push_int rfl _ _ 22 rfl Tryz.underlying22 _ _ _ _ rfl HO.out (by show Value.slice (some ⟨wr.heap.size, 0, none⟩) 1 1 = _; simp) hB (by omega) ?_; intro v' w7 h1 h2)
         have HO7 := Lib.hid h1
         have hE7 := hE.of_below h2 (Nat.le_refl _)
         clear h1 h2 HO hE
         go_wp2
         go_roundw
         case rel => exact ⟨i + 1, by omega, by omega, by go_num, by
          show World.ownsRow _ _ _ _ _ _ _
          rw [HS.out, HA.out, show L + (i + 1 - lo) = L + (i - lo) + 1 by omega]
          exact HO7.out, hE7⟩
         case measure => simp [intOf]; omega
     · obtain rfl : i = hi + 1 := by omega
       go_wp2
       go_roundw
       case rel => exact ⟨s + 1, by omega, by go_num, by
        show World.ownsRow _ _ _ _ _ _ _
        have h : World.ownsRow _ _ _ _ _ _ _ := HO.out
        have e : zigPre 4 (s + 1) = zigPre 4 s ++ zigDiag 4 s (hi + 1) := by rw [zigPre_succ, HHI.out]
        have hl : L + (hi + 1 - lo) = (zigPre 4 (s + 1)).length := by
         rw [e, List.length_append, ← HL.out]
         unfold zigDiag
         rw [List.length_map, List.length_range, HLO.out]
        rw [← hl, e]
        exact h, hE⟩
       case measure => simp [intOf]; omega
  · obtain rfl : s = 7 := by omega
    go_wp2
    go_ret
    exact ⟨_, rfl, hE, HO.out⟩
theorem zigPre_len8 : ∀ s < 15, (zigPre 8 s).length ≤ 64 ∧ zigLo 8 s ≤ zigHi 8 s ∧ zigHi 8 s < 8 := by decide +kernel
set_option maxHeartbeats 4000000 in
set_option maxRecDepth 20000 in
theorem ordown_8 (w : World) : Calls Tryz.prog 169 #[.int .i64 8] w fun e w' => ∃ u, e = .returned u ∧ Ext w w' ∧ w'.ownsRow w.heap.size 3 1 u (zigPre 8 15).length (natC (zigPre 8 15)) := by
 obtain ⟨i0, hi, hz0, hz1, hz2⟩ := info_parts infoInt
 have r1 := mx2
 have r2 := mn2
 go_enter Tryz.func169, Tryz.ntmps169
 go_wp2_with (at_make; refine wpList_make_own _ rfl _ _ 22 rfl w.heap.size 3 i0 (.int .i64 0) 1 Tryz.underlying22 hi hz0 hz1 .i64 .i64 _ 64 rfl rfl rfl (by rw [hz2]; omega) (by unfold maxLen; omega) (Nat.le_refl _) ?_; intro w2 hown hgrow)
 have hE : Ext w w2 := Below.grown (Ext.refl w) hgrow (Nat.le_refl _) (fun k hk => by cases hk)
 have hB := hE.size
 clear hgrow hi hz0 hz1 hz2
 go_wp2
 go_loopw [3, 22] (fun v sv wr => ∃ s : Nat, s ≤ 15 ∧ sv = .int .i64 s ∧ Hid (wr.ownsRow w.heap.size 3 1 v (zigPre 8 s).length (natC (zigPre 8 s))) ∧ Ext w wr) (fun _ sv _ => 15 - (intOf sv).toNat)
 case atStart => exact ⟨0, Nat.zero_le _, rfl, hown, hE⟩
 case round =>
  clear hown hE hB
  obtain ⟨s, hs, rfl, HO, hE⟩ := hrel
  by_cases hlt : s < 15
  · obtain ⟨q1, q2, q3⟩ := zigPre_len8 s hlt
    have q4 := (zigPre_len8 s hlt).1
    obtain ⟨lo, hlo⟩ : ∃ lo, lo = zigLo 8 s := ⟨_, rfl⟩
    obtain ⟨hi, hhi⟩ : ∃ hi, hi = zigHi 8 s := ⟨_, rfl⟩
    have e5 : max 0 ((s : Int) - 8 + 1) = (lo : Int) := by rw [hlo]; unfold zigLo; omega
    have t1 : decide ((s : Int) < 15) = true := decide_eq_true (by omega)
    have e6 : min (s : Int) 7 = (hi : Int) := by rw [hhi]; unfold zigHi; omega
    have f1 : (s : Int) - 8 + 1 ≤ lo := by omega
    have f2 : (hi : Int) ≤ s := by omega
    have f3 : lo ≤ hi := by rw [hlo, hhi]; exact q2
    have f4 : hi < 8 := by rw [hhi]; exact q3
    have HLO := Lib.hid hlo
    have HHI := Lib.hid hhi
    clear hlo hhi q2 q3
    obtain ⟨L, hL⟩ : ∃ L, L = (zigPre 8 s).length := ⟨_, rfl⟩
    rw [← hL] at q1 HO
    have HL := Lib.hid hL
    clear hL
    go_wp2
    go_loopw [3, 7] (fun v iv wr => ∃ i : Nat, lo ≤ i ∧ i ≤ hi + 1 ∧ iv = .int .i64 i ∧ Hid (wr.ownsRow w.heap.size 3 1 v (L + (i - lo)) (natC (zigPre 8 s ++ zigDiag 8 s i))) ∧ Ext w wr) (fun _ iv _ => hi + 1 - (intOf iv).toNat)
    case atStart => exact ⟨lo, Nat.le_refl _, by omega, rfl, by
     show World.ownsRow _ _ _ _ _ _ _
     have h : World.ownsRow _ _ _ _ _ _ _ := HO.out
     rw [show zigDiag 8 s lo = [] by unfold zigDiag; rw [HLO.out, Nat.sub_self]; rfl, List.append_nil, Nat.sub_self]
     exact h, hE⟩
    case round =>
     clear HO hE
     obtain ⟨i, hi1, hi2, rfl, HO, hE⟩ := hrel
     have hB := hE.size
     by_cases hik : i ≤ hi
     · have HS : Hid (natC (zigPre 8 s ++ zigDiag 8 s (i + 1)) = natC (zigPre 8 s ++ zigDiag 8 s i) ++ [.int .i64 ((zigAt 8 s i : Nat) : Int)]) := by
        show _ = _
        rw [zigDiag_succ (by rw [← HLO.out]; exact hi1), ← List.append_assoc, natC_append (_ ++ _)]
        rfl
       by_cases hp : s % 2 = 0
       · have b2 : ((s : Int) % 2 == 0) = true := by simp; omega
         have HA : Hid (((zigAt 8 s i : Nat) : Int) = ((hi : Int) - (i - lo)) * 8 + s - ((hi : Int) - (i - lo))) := by
          show _ = _
          unfold zigAt
          rw [if_pos hp, ← HLO.out, ← HHI.out]
          simp only
          omega
         clear hp
         go_wp2_with (at_builtin; refine push_int rfl _ _ 22 rfl Tryz.underlying22 _ _ _ _ rfl HO.out (by show Value.slice (some ⟨wr.heap.size, 0, none⟩) 1 1 = _; simp) hB (by omega) ?_; intro v' w7 h1 h2)
         have HO7 := Lib.hid h1
         have hE7 := hE.of_below h2 (Nat.le_refl _)
         clear h1 h2 HO hE
         go_wp2
         go_roundw
         case rel => exact ⟨i + 1, by omega, by omega, by go_num, by
          show World.ownsRow _ _ _ _ _ _ _
          rw [HS.out, HA.out, show L + (i + 1 - lo) = L + (i - lo) + 1 by omega]
          exact HO7.out, hE7⟩
         case measure => simp [intOf]; omega
       · have b2 : ((s : Int) % 2 == 0) = false := by simp; omega
         have HA : Hid (((zigAt 8 s i : Nat) : Int) = (i : Int) * 8 + s - i) := by
          show _ = _
          unfold zigAt
          rw [if_neg hp]
          simp only
          omega
         clear hp
         go_wp2_with (at_builtin; refine push_int rfl _ _ 22 rfl Tryz.underlying22 _ _ _ _ rfl HO.out (by show Value.slice (some ⟨wr.heap.size, 0, none⟩) 1 1 = _; simp) hB (by omega) ?_; intro v' w7 h1 h2)
         have HO7 := Lib.hid h1
         have hE7 := hE.of_below h2 (Nat.le_refl _)
         clear h1 h2 HO hE
         go_wp2
         go_roundw
         case rel => exact ⟨i + 1, by omega, by omega, by go_num, by
          show World.ownsRow _ _ _ _ _ _ _
          rw [HS.out, HA.out, show L + (i + 1 - lo) = L + (i - lo) + 1 by omega]
          exact HO7.out, hE7⟩
         case measure => simp [intOf]; omega
     · obtain rfl : i = hi + 1 := by omega
       go_wp2
       go_roundw
       case rel => exact ⟨s + 1, by omega, by go_num, by
        show World.ownsRow _ _ _ _ _ _ _
        have h : World.ownsRow _ _ _ _ _ _ _ := HO.out
        have e : zigPre 8 (s + 1) = zigPre 8 s ++ zigDiag 8 s (hi + 1) := by rw [zigPre_succ, HHI.out]
        have hl : L + (hi + 1 - lo) = (zigPre 8 (s + 1)).length := by
         rw [e, List.length_append, ← HL.out]
         unfold zigDiag
         rw [List.length_map, List.length_range, HLO.out]
        rw [← hl, e]
        exact h, hE⟩
       case measure => simp [intOf]; omega
  · obtain rfl : s = 15 := by omega
    go_wp2
    go_ret
    exact ⟨_, rfl, hE, HO.out⟩
structure Dc where
 pos : Nat
 over : Bool
 num : Nat
 wid : Nat
def stpD (bs : List Nat) (s : Dc) : Dc := { s with pos := s.pos + 1, num := s.num * 256 % 18446744073709551616 + bs.getD s.pos 0, wid := s.wid * 256 }
def nrmD (bs : List Nat) : Nat → Dc → Dc
 | 0, s => s
 | f + 1, s => if s.wid < 16777216 then nrmD bs f (stpD bs s) else s
def upD (s : Dc) (w : Nat) : Bool := s.over || decide (w ≤ s.num)
def midD (s : Dc) (w : Nat) : Dc := if upD s w then { s with num := (s.num + (18446744073709551616 - w)) % 18446744073709551616, wid := s.wid - w } else { s with wid := w }
def parD (bs : List Nat) (s : Dc) (w : Nat) : Dc := nrmD bs 3 (midD s w)
def okD (N : Nat) (s : Dc) : Prop := s.pos ≤ N ∧ s.num < 18446744073709551616 ∧ s.wid < 4294967296
theorem okD.mono {N M : Nat} {s : Dc} (h : okD N s) (k : N ≤ M) : okD M s := ⟨by have := h.1; omega, h.2⟩
theorem stpD_ok {bs : List Nat} (hb : ∀ x ∈ bs, x < 256) {N : Nat} {s : Dc} (h : okD N s) (hw : s.wid < 16777216) : okD (N + 1) (stpD bs s) := by
 obtain ⟨h1, h2, h3⟩ := h
 have hx : bs.getD s.pos 0 < 256 := by
  rw [List.getD_eq_getElem?_getD]
  cases e : bs[s.pos]? with
  | none => decide
  | some x => exact hb x (List.mem_of_getElem? e)
 refine ⟨by show s.pos + 1 ≤ _; omega, ?_, by show s.wid * 256 < _; omega⟩
 show s.num * 256 % 18446744073709551616 + bs.getD s.pos 0 < 18446744073709551616
 omega
theorem midD_ok {N w : Nat} {s : Dc} (h : okD N s) (hw : w ≤ s.wid) : okD N (midD s w) ∧ (midD s w).wid = if upD s w then s.wid - w else w := by
 obtain ⟨h1, h2, h3⟩ := h
 unfold midD
 split
 · exact ⟨⟨h1, Nat.mod_lt _ (by decide), by show s.wid - w < _; omega⟩, rfl⟩
 · exact ⟨⟨h1, h2, by show w < _; omega⟩, rfl⟩
theorem nrmD_ok {bs : List Nat} (hb : ∀ x ∈ bs, x < 256) {N : Nat} {s : Dc} : ∀ (f : Nat), okD N s → okD (N + f) (nrmD bs f s) := by
 intro f
 induction f generalizing s N with
 | zero => intro h; exact h
 | succ f ih =>
   intro h
   show okD _ (if s.wid < 16777216 then nrmD bs f (stpD bs s) else s)
   split
   · rename_i hw
     have := ih (stpD_ok hb h hw)
     rw [show N + 1 + f = N + (f + 1) by omega] at this
     exact this
   · exact h.mono (by omega)
theorem nrmD_wide {bs : List Nat} {s : Dc} : ∀ (f : Nat), 16777216 ≤ s.wid * 256 ^ f → 16777216 ≤ (nrmD bs f s).wid := by
 intro f
 induction f generalizing s with
 | zero => intro h; have h : 16777216 ≤ s.wid := by simpa using h
           exact h
 | succ f ih =>
   intro h
   show 16777216 ≤ (if s.wid < 16777216 then nrmD bs f (stpD bs s) else s).wid
   split
   · exact ih (s := stpD bs s) (by show 16777216 ≤ s.wid * 256 * 256 ^ f; rw [Nat.mul_assoc, ← Nat.pow_succ']; exact h)
   · omega
theorem parD_ok {bs : List Nat} (hb : ∀ x ∈ bs, x < 256) {N w : Nat} {s : Dc} (h : okD N s) (h1 : 1 ≤ w) (h2 : w < s.wid) : okD (N + 3) (parD bs s w) ∧ 16777216 ≤ (parD bs s w).wid := by
 obtain ⟨k1, k2⟩ := midD_ok h (Nat.le_of_lt h2)
 refine ⟨nrmD_ok hb 3 k1, nrmD_wide 3 ?_⟩
 rw [k2]
 show 16777216 ≤ _ * 16777216
 split <;> omega
def DcBox (w : World) (b : Nat) (v : Value) (s : Dc) : Prop := (w.cell? ⟨b, 0, none⟩ = some v ∧ w.cell? ⟨b, 1, none⟩ = some (.int .i64 (s.pos : Int)) ∧ w.cell? ⟨b, 2, none⟩ = some (.bool s.over) ∧ w.cell? ⟨b, 3, none⟩ = some (.int .u64 (s.num : Int)) ∧ w.cell? ⟨b, 4, none⟩ = some (.int .u64 (s.wid : Int))) ∧
 w.frozen? ⟨b, 1, none⟩ = false ∧ w.frozen? ⟨b, 2, none⟩ = false ∧ w.frozen? ⟨b, 3, none⟩ = false ∧ w.frozen? ⟨b, 4, none⟩ = false
section
variable {w w' : World} {b : Nat} {v : Value} {s : Dc}
theorem DcBox.same (x : DcBox w b v s) (k : w'.heap[b]? = w.heap[b]?) : DcBox w' b v s := by
 obtain ⟨⟨c0, c1, c2, c3, c4⟩, f1, f2, f3, f4⟩ := x
 have c : ∀ i, w'.cell? ⟨b, i, none⟩ = w.cell? ⟨b, i, none⟩ := fun i => World.cell?_of_block (a := ⟨b, i, none⟩) k
 have f : ∀ i, w'.frozen? ⟨b, i, none⟩ = w.frozen? ⟨b, i, none⟩ := fun i => World.frozen?_of_block (a := ⟨b, i, none⟩) k
 exact ⟨⟨(c 0).trans c0, (c 1).trans c1, (c 2).trans c2, (c 3).trans c3, (c 4).trans c4⟩, (f 1).trans f1, (f 2).trans f2, (f 3).trans f3, (f 4).trans f4⟩
theorem DcBox.lt (x : DcBox w b v s) : b < w.heap.size := Ext.lt (p := ⟨b, 0, none⟩) x.1.1
theorem DcBox.ext (x : DcBox w b v s) (k : Ext w w') : DcBox w' b v s := x.same (k.block x.lt)
theorem DcBox.set1 (x : DcBox w b v s) (k : Nat) : DcBox (w.setCell ⟨b, 1, none⟩ (.int .i64 (k : Int))) b v { s with pos := k } := by
 obtain ⟨⟨c0, c1, c2, c3, c4⟩, f1, f2, f3, f4⟩ := x
 exact ⟨⟨(cell_off_ne _ (by decide)).trans c0, World.cell?_setCell_same _ _ _ c1, (cell_off_ne _ (by decide)).trans c2, (cell_off_ne _ (by decide)).trans c3, (cell_off_ne _ (by decide)).trans c4⟩, by simpa using f1, by simpa using f2, by simpa using f3, by simpa using f4⟩
theorem DcBox.set2 (x : DcBox w b v s) (k : Bool) : DcBox (w.setCell ⟨b, 2, none⟩ (.bool k)) b v { s with over := k } := by
 obtain ⟨⟨c0, c1, c2, c3, c4⟩, f1, f2, f3, f4⟩ := x
 exact ⟨⟨(cell_off_ne _ (by decide)).trans c0, (cell_off_ne _ (by decide)).trans c1, World.cell?_setCell_same _ _ _ c2, (cell_off_ne _ (by decide)).trans c3, (cell_off_ne _ (by decide)).trans c4⟩, by simpa using f1, by simpa using f2, by simpa using f3, by simpa using f4⟩
theorem DcBox.set3 (x : DcBox w b v s) (k : Nat) : DcBox (w.setCell ⟨b, 3, none⟩ (.int .u64 (k : Int))) b v { s with num := k } := by
 obtain ⟨⟨c0, c1, c2, c3, c4⟩, f1, f2, f3, f4⟩ := x
 exact ⟨⟨(cell_off_ne _ (by decide)).trans c0, (cell_off_ne _ (by decide)).trans c1, (cell_off_ne _ (by decide)).trans c2, World.cell?_setCell_same _ _ _ c3, (cell_off_ne _ (by decide)).trans c4⟩, by simpa using f1, by simpa using f2, by simpa using f3, by simpa using f4⟩
theorem DcBox.set4 (x : DcBox w b v s) (k : Nat) : DcBox (w.setCell ⟨b, 4, none⟩ (.int .u64 (k : Int))) b v { s with wid := k } := by
 obtain ⟨⟨c0, c1, c2, c3, c4⟩, f1, f2, f3, f4⟩ := x
 exact ⟨⟨(cell_off_ne _ (by decide)).trans c0, (cell_off_ne _ (by decide)).trans c1, (cell_off_ne _ (by decide)).trans c2, (cell_off_ne _ (by decide)).trans c3, World.cell?_setCell_same _ _ _ c4⟩, by simpa using f1, by simpa using f2, by simpa using f3, by simpa using f4⟩
end
def DcAt (F : Nat → Prop) (w : World) (b : Nat) (bs : List Nat) (s : Dc) : Prop := ∃ a cap, DcBox w b (.slice a bs.length cap) s ∧ Bys w (.slice a bs.length cap) bs ∧ (∀ g off, a = some ⟨g, off, none⟩ → g ≠ b ∧ ¬ F g)
theorem DcAt.ext {F : Nat → Prop} {w w' : World} {b : Nat} {bs : List Nat} {s : Dc} (h : DcAt F w b bs s) (k : Ext w w') : DcAt F w' b bs s := by
 obtain ⟨a, cap, h1, h2, h3⟩ := h
 exact ⟨a, cap, h1.ext k, h2.ext k, h3⟩
theorem DcAt.kp {F : Nat → Prop} {w w' : World} {b d : Nat} {bs : List Nat} {s : Dc} (h : DcAt F w b bs s) (k : Kp d w w') (hd : F d) (hb : b ≠ d) : DcAt F w' b bs s := by
 obtain ⟨a, cap, h1, h3, h4⟩ := h
 exact ⟨a, cap, h1.same (k.block h1.lt hb), ⟨row_kp h3.1 k (fun g off ha e => (h4 g off ha).2 (e ▸ hd)), h3.2⟩, h4⟩
structure Ec where
 done : List Nat
 held : Int
 run : Nat
 low : Nat
 wid : Nat
def hdE (s : Ec) : List Nat := if 0 ≤ s.held then [(s.held % 256).toNat] else []
def carE (s : Ec) : Ec := if s.run = 0 then { s with held := s.held + 1 } else { s with done := s.done ++ (((s.held + 1) % 256).toNat :: List.replicate (s.run - 1) 0), held := 0, run := 0 }
def shfE (s : Ec) : Ec := if s.low / 16777216 = 255 then { s with run := s.run + 1, low := s.low % 16777216 * 256 } else { s with done := s.done ++ (hdE s ++ List.replicate s.run 255), held := ((s.low / 16777216 : Nat) : Int), run := 0, low := s.low % 16777216 * 256 }
def stpE (s : Ec) : Ec := { shfE s with wid := s.wid * 256 }
def nrmE : Nat → Ec → Ec
 | 0, s => s
 | f + 1, s => if s.wid < 16777216 then nrmE f (stpE s) else s
def upE (s : Ec) (w : Nat) : Ec := if 4294967296 ≤ s.low + w then carE { s with low := s.low + w - 4294967296, wid := s.wid - w } else { s with low := s.low + w, wid := s.wid - w }
def midE (s : Ec) (w : Nat) (up : Bool) : Ec := if up then upE s w else { s with wid := w }
def parE (s : Ec) (w : Nat) (up : Bool) : Ec := nrmE 3 (midE s w up)
def Mat (w : World) (v : Value) (L : List (List Int)) : Prop := ∃ (a : Option Addr) (cap : Nat), v = .slice a L.length cap ∧ L.length ≤ cap ∧ cap ≤ maxLen ∧
 (0 < L.length → ∃ g off, a = some ⟨g, off, none⟩ ∧ ∀ q row, L[q]? = some row → ∃ ra rn rc, w.cell? ⟨g, off + q, none⟩ = some (.slice ra rn rc) ∧ Row w (.slice ra rn rc) row.length (row.map (Value.int .i64)))
theorem push_at {ops : Array Oper} {rest : List Oper} {o : Oper} {a : Act} {Q : Exit → Act → World → Prop} {W : World} {base : Nat} (hgd : o.guard = none) (s y : Operand) (t : TypeId)
 (ho : o.op = .call { callee := .builtin .append, args := #[s, y], argTypes := #[t, t] }) (ht : Tryz.prog.underlying t = some (.slice 3))
 (v : Value) (n : Nat) (xs : List Value) (x : Int) (hs : a.eval s = v) (hown : W.ownsRow base 3 1 v n xs) (hx : a.eval y = .slice (some ⟨W.heap.size, 0, none⟩) 1 1) (hb : base ≤ W.heap.size) (hn : n ≤ 1000000000000)
 (h : ∀ v' w', w'.ownsRow base 3 1 v' (n + 1) (xs ++ [.int .i64 x]) → W.grownBy w' v.ownBlock → (v'.ownBlock = v.ownBlock ∨ v'.ownBlock = some (W.heap.size + 1)) → wpList Tryz.prog ops Q rest (a.put o.dst v') w') :
 wpList Tryz.prog ops Q (o :: rest) a (W.alloc (.cells #[.int .i64 x] 3)) := by
 obtain ⟨i0, hi, hz0, hz1, hz2⟩ := info_parts infoInt
 refine wpList_append_own_at _ hgd s y t ho base 3 i0 (.int .i64 0) 1 8 ht hi hz0 hz1 hz2 rfl (by decide) v n xs hs (hown.alloc _) ⟨W.heap.size, 0, none⟩ 1 1 [.int .i64 x] hx rfl (cell_one_new _ _ _) (one_int _) (by unfold maxLen; omega) (by omega) (by simp; omega) ?_
 intro v' w' h1 h2 h3 h4
 refine h v' w' h1 ⟨h2.os, h2.tape, h2.output, Nat.le_trans (by simp) h2.size, fun k hk hne => ?_⟩ (by simpa using h4)
 exact (h2.block k (by simp; omega) hne).trans (Below.heap_alloc W _ k hk)
theorem own_grownBy {w w' : World} {base : Nat} {e : TypeId} {size n : Nat} {v : Value} {xs : List Value} {row : Option Nat} (h : w.ownsRow base e size v n xs) (k : w.grownBy w' row) (hne : v.ownBlock = none ∨ v.ownBlock ≠ row) : w'.ownsRow base e size v n xs := by
 obtain ⟨hl, h⟩ := h
 refine ⟨hl, ?_⟩
 rcases h with h | ⟨g, cap, cur, rfl, hb, hg, h⟩
 · exact Or.inl h
 · have hlt : g < w.heap.size := (Array.getElem?_eq_some_iff.1 hg).1
   have e1 : Value.ownBlock (.slice (some ⟨g, 0, none⟩) n cap) = some g := rfl
   rw [e1] at hne
   refine Or.inr ⟨g, cap, cur, rfl, hb, (k.block g hlt ?_).trans hg, h⟩
   rcases hne with hne | hne
   · cases hne
   · exact hne
open Go.ChangeShapes Go.WideShapes Go.ChangeAt Go.RowKit Go.Joins Go.Deep
section
variable {H : Type} {enc : TypeId × Value → H} {w : World}
theorem wf_bounds {n : Int} (h : (Lit.int .i64 n).wf = true) : -9223372036854775808 ≤ n ∧ n ≤ 9223372036854775807 := bounds_i64 h
theorem lits_cells {k : IntKind} {zs : List Int} {n j : Nat} {u : Value} (h : ((zs.take n).map (Value.int k))[j]? = some u) : j < zs.length ∧ u = .int k (zs.getD j 0) := by
 rw [List.getElem?_map] at h
 obtain ⟨x, hx, rfl⟩ := Option.map_eq_some_iff.1 h
 rw [List.getElem?_take] at hx
 split at hx
 · obtain ⟨hj, e⟩ := List.getElem?_eq_some_iff.1 hx
   exact ⟨hj, by simp [List.getD, hx]⟩
 · cases hx
set_option maxRecDepth 100000 in
theorem ints_of_trod {sp : Nat → Bool} {v : Value} {y : DataW H × List MemPlace} {fuel : Nat} (hsp : ∀ b, sp b = true) (hf : DataW.trod enc Tryz.prog w 0 sp true fuel 22 [v] = some y) :
 ∃ zs : List Int, Row w v zs.length (zs.map (Value.int .i64)) ∧ zs.length ≤ 9223372036854775807 ∧ ∀ x ∈ zs, -9223372036854775808 ≤ x ∧ x ≤ 9223372036854775807 := by
 rcases open_ints Tryz.underlying22 (k := .i64) Tryz.underlying3 (by kernel_rfl) hf with ⟨hc, _⟩ | ⟨a, len, cap, zs, hc, _, hl, hm, hlen, _, hcell, hw⟩
 · obtain rfl : v = .slice none 0 0 := (List.cons.inj hc).1
   exact ⟨[], Row.nil w, by simp, by simp⟩
 · obtain rfl : v = .slice (some a) len cap := (List.cons.inj hc).1
   rw [hsp a.block] at hlen
   simp only [if_true] at hlen
   have hl' : (zs.take len).length = len := by simp; omega
   refine ⟨zs.take len, ⟨some a, cap, by rw [hl'], by rw [hl']; exact hl, hm, fun h0 => ?_, fun g off ha j u hu => ?_⟩, ?_, fun x hx => wf_bounds (hw x (List.mem_of_mem_take hx))⟩
   · have hp : 0 < zs.length := by rw [hl'] at h0; omega
     obtain ⟨b, off, rfl, _⟩ := ints_at hcell hp
     exact ⟨b, off, rfl⟩
   · obtain ⟨hj, rfl⟩ := lits_cells hu
     have := hcell j hj
     obtain rfl := Option.some.inj ha
     rwa [Go.WideShapes.add_plain] at this
   · rw [hl']; unfold maxLen at hm; omega
set_option maxRecDepth 100000 in
theorem open_frame {r : Reach} {b0 : Nat} {sp : Nat → Bool} {v : Value} {d : DataW H} {p : List MemPlace} (hsp : ∀ b, sp b = true)
 (hv : Value.okWide Tryz.prog w r b0 24 v) (h : DataW.Trod enc Tryz.prog w 0 sp true 24 v d p) :
 ∃ (W H' : Int) (u : Value) (zs : List Int), v = .agg #[.int .i64 W, .int .i64 H', u] ∧ (-9223372036854775808 ≤ W ∧ W ≤ 9223372036854775807) ∧ (-9223372036854775808 ≤ H' ∧ H' ≤ 9223372036854775807) ∧
   Row w u zs.length (zs.map (Value.int .i64)) ∧ zs.length ≤ 9223372036854775807 ∧ ∀ x ∈ zs, -9223372036854775808 ≤ x ∧ x ≤ 9223372036854775807 := by
 obtain ⟨v0, v1, v2, y0, y1, y2, n, rfl, -, -, h0, h1, h2⟩ := open_agg3 Tryz.underlying24 (by kernel_rfl) (by kernel_rfl) hv h
 obtain ⟨m0, e0, -, w0⟩ := DataW.trod_int Tryz.underlying3 h0
 obtain ⟨m1, e1, -, w1⟩ := DataW.trod_int Tryz.underlying3 h1
 obtain ⟨zs, hz⟩ := ints_of_trod hsp h2
 obtain rfl := (List.cons.inj e0).1
 obtain rfl := (List.cons.inj e1).1
 exact ⟨m0, m1, v2, zs, rfl, wf_bounds w0, wf_bounds w1, hz⟩
end
section
variable {H : Type} {enc : TypeId × Value → H} {w : World}
end
theorem res_cells {w : World} {B : Nat} {c : Int} (h0 : w.cell? ⟨B, 0, none⟩ = some (.int .i64 0)) (h1 : w.cell? ⟨B, 1, none⟩ = some (.slice none 0 0)) (v : Value) :
 ((w.setCell ⟨B, 0, none⟩ (.int .i64 c)).setCell ⟨B, 1, none⟩ v).cell? ⟨B, 0, none⟩ = some (.int .i64 c) ∧ ((w.setCell ⟨B, 0, none⟩ (.int .i64 c)).setCell ⟨B, 1, none⟩ v).cell? ⟨B, 1, none⟩ = some v := by
 have e0 := World.cell?_setCell_same _ _ (.int .i64 c) h0
 have e1 := (World.cell?_setCell_other w ⟨B, 0, none⟩ ⟨B, 1, none⟩ (.int .i64 c) (by simp)).trans h1
 have e2 := World.cell?_setCell_same _ _ v e1
 have e3 := (World.cell?_setCell_other (w.setCell ⟨B, 0, none⟩ (.int .i64 c)) ⟨B, 1, none⟩ ⟨B, 0, none⟩ v (by simp)).trans e0
 exact ⟨e3, e2⟩
def ResAt (w : World) (B : Nat) : Prop := w.cell? ⟨B, 0, none⟩ = some (.int .i64 0) ∧ w.cell? ⟨B, 1, none⟩ = some (.slice none 0 0) ∧ w.frozen? ⟨B, 0, none⟩ = false ∧ w.frozen? ⟨B, 1, none⟩ = false
theorem ResAt.ext {w w' : World} {B : Nat} (h : ResAt w B) (k : Ext w w') : ResAt w' B := by
 obtain ⟨h0, h1, h2, h3⟩ := h
 exact ⟨k.cell h0, k.cell h1, (Below.frozen k (Ext.lt h0)).trans h2, (Below.frozen k (Ext.lt h1)).trans h3⟩
theorem ResAt.new (w : World) : ResAt (w.alloc (.cells #[.int .i64 0, .slice none 0 0] 43)) w.heap.size := by
 refine ⟨?_, ?_, ?_, ?_⟩ <;> simp
end Go.Proofs.YtcekpngkfldgkaaGreatDoor