/- Contracts of this seat: Cop, PutM, Fr2, In, In2, EdR, CpF, RMay, PlA. -/
import Derived.Test.YtcekpngkfldgkaaGreatDoorXRep
import Derived.Test.YtcekpngkfldgkaaGreatDoorXZb
import Derived.Deep.RegionWith
namespace Go.Proofs.YtcekpngkfldgkaaGreatDoor
set_option linter.unusedVariables false
set_option linter.unusedSimpArgs false
open Go.RowKit Go.Extern.Stop Go.Stop Go.Extern
theorem own_mono {w : World} {base b n : Nat} {e : TypeId} {s : Nat} {v : Value} {xs : List Value} (h : w.ownsRow base e s v n xs) (hb : b ≤ base) : w.ownsRow b e s v n xs := by
 obtain ⟨hl, h⟩ := h
 refine ⟨hl, ?_⟩
 rcases h with h | ⟨g, cap, cur, e, hg, h⟩
 · exact Or.inl h
 · exact Or.inr ⟨g, cap, cur, e, Nat.le_trans hb hg, h⟩
def RepPost (w : World) (N : Nat) (x : Int) (e : Ending) (w' : World) : Prop := ∃ g, e = .returned (.slice (some ⟨g, 0, none⟩) N N) ∧ Ext w w' ∧ w'.ownsRow w.heap.size 3 1 (.slice (some ⟨g, 0, none⟩) N N) N ((rowL N fun _ => x).map (Value.int .i64)) ∧ w.heap.size ≤ g ∧ g < w'.heap.size
theorem rep_key (M : Nat) (x : Int) (v : Value) (w : World) (ha : Ints w v [x]) (h1 : 1 ≤ M) (h2 : M ≤ 1024) (hm : ∀ W, Calls Tryz.prog 105 #[.int .u64 1, .int .u64 (M : Int)] W fun e w' => e = .returned (.tuple #[.int .u64 0, .int .u64 (M : Int)]) ∧ W = w') :
 Calls Tryz.prog 72 #[v, .int .i64 (M : Int)] w (RepPost w M x) :=
 (rep_walk M x v w ha h1 h2 hm).mono fun e w' ⟨u, he, hx, ho, G, hG⟩ => by
   subst hG
   obtain ⟨hb, hs⟩ := ho.lt G rfl
   exact ⟨G, he, hx, ho, hb, hs⟩
theorem rep_sz (M : Nat) (hM : M = 4 ∨ M = 8 ∨ M = 64 ∨ M = 128 ∨ M = 192 ∨ M = 256 ∨ M = 384 ∨ M = 512 ∨ M = 576 ∨ M = 768 ∨ M = 1024) (x : Int) (v : Value) (w : World) (ha : Ints w v [x]) :
 Calls Tryz.prog 72 #[v, .int .i64 (M : Int)] w (RepPost w M x) := by
 rcases hM with rfl | rfl | rfl | rfl | rfl | rfl | rfl | rfl | rfl | rfl | rfl
 · exact rep_key 4 x v w ha (by decide) (by decide) (fun W => mul_4 W)
 · exact rep_key 8 x v w ha (by decide) (by decide) (fun W => mul_8 W)
 · exact rep_key 64 x v w ha (by decide) (by decide) (fun W => mul_64 W)
 · exact rep_key 128 x v w ha (by decide) (by decide) (fun W => mul_128 W)
 · exact rep_key 192 x v w ha (by decide) (by decide) (fun W => mul_192 W)
 · exact rep_key 256 x v w ha (by decide) (by decide) (fun W => mul_256 W)
 · exact rep_key 384 x v w ha (by decide) (by decide) (fun W => mul_384 W)
 · exact rep_key 512 x v w ha (by decide) (by decide) (fun W => mul_512 W)
 · exact rep_key 576 x v w ha (by decide) (by decide) (fun W => mul_576 W)
 · exact rep_key 768 x v w ha (by decide) (by decide) (fun W => mul_768 W)
 · exact rep_key 1024 x v w ha (by decide) (by decide) (fun W => mul_1024 W)
theorem grownBy_setRow (w : World) (g : Nat) (cs : Array Value) : w.grownBy (w.setRow g cs) (some g) :=
 ⟨rfl, rfl, rfl, by simp [World.setRow], fun k _ hne => setRow_other w g k cs (fun e => hne (by rw [e]))⟩
theorem copy_keep {P : Program} {w : World} {ops : Array Oper} {rest : List Oper} {o : Oper} {a : Act} {Q : Exit → Act → World → Prop} (hgd : o.guard = none) (d s : Operand) (dT sT : TypeId)
 (ho : o.op = .call { callee := .builtin .copy, args := #[d, s], argTypes := #[dT, sT] }) (elem : TypeId) (hu : P.underlying dT = some (.slice elem)) (hsz : (P.info? elem).map (·.size) = some 1)
 (g off dLen dCap : Nat) (ad : Addr) (sLen sCap : Nat) (hd : a.eval d = .slice (some ⟨g, off, none⟩) dLen dCap) (hs : a.eval s = .slice (some ad) sLen sCap)
 (cur : List Value) (t : TypeId) (hg : w.heap[g]? = some (.cells cur.toArray t (0, 0))) (cs : List Value) (hn : cs.length = Nat.min sLen dLen)
 (hsrc : ∀ j v, cs[j]? = some v → w.cell? (ad.add j) = some v) (hfit : off + cs.length ≤ cur.length) (h1 : ∀ v ∈ cs, v.oneCell' = true)
 (h : ∀ w', Hid (w'.heap[g]? = some (.cells (splice cur off cs).toArray t (0, 0))) → w.grownBy w' (some g) → wpList P ops Q rest (a.put o.dst (goInt cs.length)) w') :
 wpList P ops Q (o :: rest) a w := by
 refine wpList_copy_own hgd d s dT sT ho elem hu hsz g off dLen dCap ad sLen sCap hd hs cur.toArray t hg cs hn hsrc (by simpa using hfit) h1 ?_
 exact h _ (show _ = _ by simpa [splice] using setRow_heap w g _ _ t _ hg) (grownBy_setRow _ _ _)
theorem read_row {w : World} {g off n cap k N : Nat} {zs : List Int} {f : Nat → Int} (h : Ints w (.slice (some ⟨g, off, none⟩) n cap) zs) (hk : k + N ≤ n) (hf : ∀ j, j < N → f j = zs.getD (k + j) 0) :
 ∀ j v, ((rowL N f).map (Value.int .i64))[j]? = some v → w.cell? ((⟨g, off + k, none⟩ : Addr).add j) = some v := fun j v hv => by
 have hadd : (⟨g, off + k, none⟩ : Addr).add j = ⟨g, off + (k + j), none⟩ := by unfold Addr.add; split <;> simp_all [Nat.add_assoc]
 rw [List.getElem?_map] at hv
 obtain ⟨y, hy, rfl⟩ := Option.map_eq_some_iff.1 hv
 have hj : j < N := by
  have := (List.getElem?_eq_some_iff.1 hy).1
  rwa [rowL_length] at this
 rw [rowL_get hj] at hy
 cases hy
 rw [hadd, hf j hj]
 exact h.at (get_of_lt (by rw [← h.len]; omega))
theorem ones_row (N : Nat) (f : Nat → Int) : ∀ u ∈ (rowL N f).map (Value.int .i64), u.oneCell' = true := fun u hu => by
 obtain ⟨y, _, rfl⟩ := List.mem_map.1 hu
 rfl
theorem splice_all {α : Type} {L cs : List α} (h : cs.length = L.length) : splice L 0 cs = cs := by
 unfold splice
 simp [h]
theorem rowL_cg {N : Nat} {f g : Nat → Int} (h : ∀ j, j < N → f j = g j) : rowL N f = rowL N g := by
 unfold rowL
 exact List.map_congr_left fun j hj => h j (List.mem_range.1 hj)
theorem rowL_sn (k : Nat) (f : Nat → Int) : (rowL (k + 1) f).map (Value.int .i64) = (rowL k f).map (Value.int .i64) ++ [.int .i64 (f k)] := by
 unfold rowL
 rw [List.range_succ, List.map_append, List.map_append]
 rfl
open Go.RowKit
def inSq (W X Y N k : Nat) : Prop := Y ≤ k / W ∧ k / W < Y + N ∧ X ≤ k % W ∧ k % W < X + N
instance (W X Y N k : Nat) : Decidable (inSq W X Y N k) := by unfold inSq; exact inferInstance
def idxSq (W X Y N k : Nat) : Nat := (k / W - Y) * N + (k % W - X)
def putK (W X Y N K : Nat) (z b : Nat → Int) (k : Nat) : Int := if inSq W X Y N k ∧ idxSq W X Y N k < K then b (idxSq W X Y N k) else z k
theorem putK_zero (W X Y N : Nat) (z b : Nat → Int) (k : Nat) : putK W X Y N 0 z b k = z k := by
 unfold putK
 rw [if_neg (fun h => Nat.not_lt_zero _ h.2)]
theorem pos_div {W R C : Nat} (h : C < W) : (R * W + C) / W = R ∧ (R * W + C) % W = C := by
 constructor
 · rw [Nat.add_comm, Nat.add_mul_div_right _ _ (by omega), Nat.div_eq_of_lt h, Nat.zero_add]
 · rw [Nat.add_comm, Nat.add_mul_mod_self_right, Nat.mod_eq_of_lt h]
theorem pos_of (k W : Nat) : (k / W) * W + k % W = k := by
 have := Nat.div_add_mod k W
 rw [Nat.mul_comm] at this
 exact this
theorem row_eq {a t J N : Nat} (ht : t < N) (h1 : J * N ≤ a * N + t) (h2 : a * N + t < J * N + N) : a = J := by
 rcases Nat.lt_trichotomy a J with h | h | h
 · have := Nat.mul_le_mul_right N (show a + 1 ≤ J from h)
   rw [Nat.succ_mul] at this
   omega
 · exact h
 · have := Nat.mul_le_mul_right N (show J + 1 ≤ a from h)
   rw [Nat.succ_mul] at this
   omega
theorem in_sq {W X Y N J t : Nat} (hX : X + N ≤ W) (hJ : J < N) (ht : t < N) : inSq W X Y N ((Y + J) * W + (X + t)) ∧ idxSq W X Y N ((Y + J) * W + (X + t)) = J * N + t := by
 obtain ⟨e1, e2⟩ := pos_div (W := W) (R := Y + J) (C := X + t) (by omega)
 unfold inSq idxSq
 rw [e1, e2]
 refine ⟨by omega, ?_⟩
 rw [show Y + J - Y = J by omega, show X + t - X = t by omega]
theorem sq_at {W X Y N k : Nat} (h : inSq W X Y N k) : ∃ J t, J < N ∧ t < N ∧ k = (Y + J) * W + (X + t) ∧ idxSq W X Y N k = J * N + t := by
 obtain ⟨h1, h2, h3, h4⟩ := h
 refine ⟨k / W - Y, k % W - X, by omega, by omega, ?_, rfl⟩
 rw [show Y + (k / W - Y) = k / W by omega, show X + (k % W - X) = k % W by omega, pos_of]
theorem putK_splice {W X Y N J n : Nat} {z b : Nat → Int} (hX : X + N ≤ W) (hJ : J < N) (hn : (Y + J) * W + X + N ≤ n) :
 splice ((rowL n (putK W X Y N (J * N) z b)).map (Value.int .i64)) ((Y + J) * W + X) ((rowL N fun t => b (J * N + t)).map (Value.int .i64)) = (rowL n (putK W X Y N ((J + 1) * N) z b)).map (Value.int .i64) := by
 have other : ∀ i, (i < (Y + J) * W + X ∨ (Y + J) * W + X + N ≤ i) → putK W X Y N (J * N) z b i = putK W X Y N ((J + 1) * N) z b i := fun i hi => by
  unfold putK
  by_cases hs : inSq W X Y N i
  · obtain ⟨J', t, h1, h2, h3, h4⟩ := sq_at hs
    rw [h4]
    by_cases c1 : J' * N + t < J * N
    · rw [if_pos ⟨hs, c1⟩, if_pos ⟨hs, by rw [Nat.succ_mul]; omega⟩]
    · by_cases c2 : J' * N + t < (J + 1) * N
      · rw [Nat.succ_mul] at c2
        have := row_eq h2 (by omega) c2
        subst this
        omega
      · rw [if_neg (fun e => c1 e.2), if_neg (fun e => c2 e.2)]
  · rw [if_neg (fun e => hs e.1), if_neg (fun e => hs e.1)]
 unfold splice
 apply List.ext_getElem?
 intro i
 have hlen : ∀ f, ((rowL n f).map (Value.int .i64)).length = n := fun f => by rw [List.length_map, rowL_length]
 have hcs : ((rowL N fun t => b (J * N + t)).map (Value.int .i64)).length = N := by rw [List.length_map, rowL_length]
 by_cases h1 : i < (Y + J) * W + X
 · rw [List.getElem?_append_left (by rw [List.length_take, hlen]; omega), List.getElem?_take, if_pos h1, List.getElem?_map, List.getElem?_map, rowL_get (by omega), rowL_get (by omega), other i (Or.inl h1)]
 · have e1 : (List.take ((Y + J) * W + X) ((rowL n (putK W X Y N (J * N) z b)).map (Value.int .i64))).length = (Y + J) * W + X := by rw [List.length_take, hlen]; omega
   rw [List.getElem?_append_right (by rw [e1]; omega), e1]
   by_cases h2 : i < (Y + J) * W + X + N
   · obtain ⟨t, rfl⟩ : ∃ t, i = (Y + J) * W + (X + t) := ⟨i - ((Y + J) * W + X), by omega⟩
     have ht : t < N := by omega
     rw [List.getElem?_append_left (by rw [hcs]; omega), List.getElem?_map, List.getElem?_map, show (Y + J) * W + (X + t) - ((Y + J) * W + X) = t by omega, rowL_get ht, rowL_get (by omega)]
     obtain ⟨s1, s2⟩ := in_sq (Y := Y) hX hJ ht
     unfold putK
     rw [s2, if_pos ⟨s1, by rw [Nat.succ_mul]; omega⟩]
   · rw [List.getElem?_append_right (by rw [hcs]; omega), List.getElem?_drop, hcs, show (Y + J) * W + X + N + (i - ((Y + J) * W + X) - N) = i by omega, List.getElem?_map, List.getElem?_map]
     by_cases h3 : i < n
     · rw [rowL_get h3, rowL_get h3, other i (Or.inr (by omega))]
     · rw [List.getElem?_eq_none (by rw [rowL_length]; omega), List.getElem?_eq_none (by rw [rowL_length]; omega)]
theorem putK_one {W X Y N K : Nat} {z b : Nat → Int} (hX : X + N ≤ W) (hK : K < N * N) (i : Nat) :
 putK W X Y N (K + 1) z b i = if i = (Y + K / N) * W + X + K % N then b K else putK W X Y N K z b i := by
 have hN : 0 < N := by
  rcases Nat.eq_zero_or_pos N with h | h
  · subst h; omega
  · exact h
 have hd : K / N < N := (Nat.div_lt_iff_lt_mul hN).2 hK
 have hm : K % N < N := Nat.mod_lt _ hN
 obtain ⟨s1, s2⟩ := in_sq (Y := Y) hX hd hm
 rw [pos_of] at s2
 by_cases hi : i = (Y + K / N) * W + X + K % N
 · rw [if_pos hi, hi, Nat.add_assoc]
   unfold putK
   rw [s2, if_pos ⟨s1, Nat.lt_succ_self _⟩]
 · rw [if_neg hi]
   unfold putK
   by_cases hs : inSq W X Y N i
   · have hne : idxSq W X Y N i ≠ K := fun e => by
      obtain ⟨J, t, h1, h2, h3, h4⟩ := sq_at hs
      rw [e] at h4
      obtain ⟨q1, q2⟩ := pos_div (W := N) (R := J) (C := t) h2
      rw [← h4] at q1 q2
      rw [← q1, ← q2] at h3
      omega
     by_cases c1 : idxSq W X Y N i < K
     · rw [if_pos ⟨hs, by omega⟩, if_pos ⟨hs, c1⟩]
     · rw [if_neg (fun e => by have := e.2; omega), if_neg (fun e => c1 e.2)]
   · rw [if_neg (fun e => hs e.1), if_neg (fun e => hs e.1)]
def form : Fall := some ([], 2)
theorem may_getD {W H : Int} {zs : List Int} (h : may W H zs) (j : Nat) : 0 ≤ zs.getD j 0 ∧ zs.getD j 0 ≤ 255 := by
 by_cases hj : j < zs.length
 · exact h.2.2.2.at (get_of_lt hj)
 · simp [List.getD, List.getElem?_eq_none (Nat.not_lt.1 hj)]
theorem may_len {W H : Int} {zs : List Int} (h : may W H zs) : zs.length ≤ 1024 := by have := may_area h; have := h.2.2.1; omega
def kind : Fall := some ([], 13)
def sdB (n : Int) : Bool := decide (n = 4) || decide (n = 8)
theorem sdB_nat {n : Nat} (h : sdB n = true) : n = 4 ∨ n = 8 := by unfold sdB at h; simp at h; omega
theorem sd_any (n : Int) (w : World) : Calls Tryz.prog 134 #[.int .i64 n] w fun e w' => e = .returned (.bool (sdB n)) ∧ w = w' := by
 by_cases h1 : n = 4
 · have H : Hid (sdB n = true) := by show _ = _; unfold sdB; simp [h1]
   have b1 : (n == 4) = true := by simpa using h1
   clear h1
   go_enter Tryz.func134, Tryz.ntmps134
   go_wp2
   go_ret
   exact ⟨by rw [H.out]; rfl, rfl⟩
 · by_cases h2 : n = 8
   · have H : Hid (sdB n = true) := by show _ = _; unfold sdB; simp [h2]
     have b1 : (n == 4) = false := by simpa using h1
     have b2 : (n == 8) = true := by simpa using h2
     clear h1 h2
     go_enter Tryz.func134, Tryz.ntmps134
     go_wp2
     go_ret
     exact ⟨by rw [H.out]; rfl, rfl⟩
   · have H : Hid (sdB n = false) := by show _ = _; unfold sdB; simp [h1, h2]
     have b1 : (n == 4) = false := by simpa using h1
     have b2 : (n == 8) = false := by simpa using h2
     clear h1 h2
     go_enter Tryz.func134, Tryz.ntmps134
     go_wp2
     go_ret
     exact ⟨by rw [H.out]; rfl, rfl⟩
def chkAns (ts ls : List Int) (c : Int) : Fall := if sdB ts.length = true ∧ ls.length = ts.length then (if ts.any nosmpB = true ∨ ls.any nosmpB = true ∨ nosmpB c = true then range else none) else fit
theorem nosmp_false {x : Int} (h : nosmpB x = false) : 0 ≤ x ∧ x ≤ 255 := by unfold nosmpB at h; simp at h; omega
theorem chkAns_none {ts ls : List Int} {c : Int} (h : chkAns ts ls c = none) : (ts.length = 4 ∨ ts.length = 8) ∧ ls.length = ts.length ∧ (∀ j, 0 ≤ ts.getD j 0 ∧ ts.getD j 0 ≤ 255) ∧ (∀ j, 0 ≤ ls.getD j 0 ∧ ls.getD j 0 ≤ 255) ∧ 0 ≤ c ∧ c ≤ 255 := by
 unfold chkAns at h
 split at h
 · rename_i h1
   split at h
   · cases h
   · rename_i h2
     have k1 : ts.any nosmpB = false := by cases hx : ts.any nosmpB with | false => rfl | true => exact absurd (Or.inl hx) h2
     have k2 : ls.any nosmpB = false := by cases hx : ls.any nosmpB with | false => rfl | true => exact absurd (Or.inr (Or.inl hx)) h2
     have k3 : nosmpB c = false := by cases hx : nosmpB c with | false => rfl | true => exact absurd (Or.inr (Or.inr hx)) h2
     exact ⟨sdB_nat h1.1, h1.2, fun j => nosmp_false (any_false k1 j 0 rfl), fun j => nosmp_false (any_false k2 j 0 rfl), nosmp_false k3⟩
 · cases h
set_option maxRecDepth 20000 in
theorem icheck_any (ts ls : List Int) (c : Int) (v u : Value) (w : World) (ha : Ints w v ts) (hb : Ints w u ls) :
 Calls Tryz.prog 135 #[v, u, .int .i64 c] w (EPost w (chkAns ts ls c)) := by
 have N1 := Lib.hid (nosmpB_has ts v w ha)
 have N2 := Lib.hid (nosmpB_has ls u w hb)
 obtain ⟨a, cap, rfl⟩ := ha.form
 obtain ⟨b, cap', rfl⟩ := hb.form
 clear ha hb
 cases hs : sdB ts.length with
 | false =>
   have HR : Hid (chkAns ts ls c = fit) := by show _ = _; unfold chkAns; rw [if_neg (fun e => by rw [hs] at e; cases e.1)]
   go_enter Tryz.func135, Tryz.ntmps135
   go_wp2_with fail
   refine (sd_any _ _).mono ?_; rintro e w1 ⟨rfl, rfl⟩
   go_wp2
   go_ret
   exact ⟨_, rfl, Ext.refl w, by rw [HR.out]; exact ErrIs.code (by decide)⟩
 | true =>
   by_cases hl : ls.length = ts.length
   · have b1 : ((ls.length : Int) != (ts.length : Int)) = false := by simp; omega
     cases h1 : ts.any nosmpB with
     | true =>
       have HR : Hid (chkAns ts ls c = range) := by show _ = _; unfold chkAns; rw [if_pos ⟨hs, hl⟩, if_pos (Or.inl h1)]
       clear hl
       go_enter Tryz.func135, Tryz.ntmps135
       go_wp2_with fail
       refine (sd_any _ _).mono ?_; rintro e w1 ⟨rfl, rfl⟩
       go_wp2_with fail
       refine (N1.out).mono ?_; rintro e w1 ⟨rfl, rfl⟩
       go_wp2
       go_ret
       exact ⟨_, rfl, Ext.refl w, by rw [HR.out]; exact ErrIs.code (by decide)⟩
     | false =>
       cases h2 : ls.any nosmpB with
       | true =>
         have HR : Hid (chkAns ts ls c = range) := by show _ = _; unfold chkAns; rw [if_pos ⟨hs, hl⟩, if_pos (Or.inr (Or.inl h2))]
         clear hl
         go_enter Tryz.func135, Tryz.ntmps135
         go_wp2_with fail
         refine (sd_any _ _).mono ?_; rintro e w1 ⟨rfl, rfl⟩
         go_wp2_with fail
         refine (N1.out).mono ?_; rintro e w1 ⟨rfl, rfl⟩
         go_wp2_with fail
         refine (N2.out).mono ?_; rintro e w1 ⟨rfl, rfl⟩
         go_wp2
         go_ret
         exact ⟨_, rfl, Ext.refl w, by rw [HR.out]; exact ErrIs.code (by decide)⟩
       | false =>
         cases h3 : nosmpB c with
         | true =>
           have HR : Hid (chkAns ts ls c = range) := by show _ = _; unfold chkAns; rw [if_pos ⟨hs, hl⟩, if_pos (Or.inr (Or.inr h3))]
           clear hl
           go_enter Tryz.func135, Tryz.ntmps135
           go_wp2_with fail
           refine (sd_any _ _).mono ?_; rintro e w1 ⟨rfl, rfl⟩
           go_wp2_with fail
           refine (N1.out).mono ?_; rintro e w1 ⟨rfl, rfl⟩
           go_wp2_with fail
           refine (N2.out).mono ?_; rintro e w1 ⟨rfl, rfl⟩
           go_wp2_with fail
           refine (nosmpB_call _ _).mono ?_; rintro e w1 ⟨rfl, rfl⟩
           go_wp2
           go_ret
           exact ⟨_, rfl, Ext.refl w, by rw [HR.out]; exact ErrIs.code (by decide)⟩
         | false =>
           have HR : Hid (chkAns ts ls c = none) := by show _ = _; unfold chkAns; rw [if_pos ⟨hs, hl⟩, if_neg (by rw [h1, h2, h3]; decide)]
           clear hl
           go_enter Tryz.func135, Tryz.ntmps135
           go_wp2_with fail
           refine (sd_any _ _).mono ?_; rintro e w1 ⟨rfl, rfl⟩
           go_wp2_with fail
           refine (N1.out).mono ?_; rintro e w1 ⟨rfl, rfl⟩
           go_wp2_with fail
           refine (N2.out).mono ?_; rintro e w1 ⟨rfl, rfl⟩
           go_wp2_with fail
           refine (nosmpB_call _ _).mono ?_; rintro e w1 ⟨rfl, rfl⟩
           go_wp2
           go_ret
           exact ⟨_, rfl, Ext.refl w, by rw [HR.out]; rfl⟩
   · have b1 : ((ls.length : Int) != (ts.length : Int)) = true := by simp; omega
     have HR : Hid (chkAns ts ls c = fit) := by show _ = _; unfold chkAns; rw [if_neg (fun e => hl e.2)]
     clear hl
     go_enter Tryz.func135, Tryz.ntmps135
     go_wp2_with fail
     refine (sd_any _ _).mono ?_; rintro e w1 ⟨rfl, rfl⟩
     go_wp2
     go_ret
     exact ⟨_, rfl, Ext.refl w, by rw [HR.out]; exact ErrIs.code (by decide)⟩
def nbF (t l : Nat → Int) : Nat → Int
 | 0 => 0
 | j + 1 => nbF t l j + (t j + l j)
def meanOf (ts ls : List Int) : Int := (ts.length + nbF (fun i => ts.getD i 0) (fun i => ls.getD i 0) ts.length) / (2 * ts.length)
def prdF (mode : Int) (ts ls : List Int) (c : Int) (k : Nat) : Int :=
 if mode = 0 then meanOf ts ls else if mode = 1 then ts.getD (k % ts.length) 0 else if mode = 2 then ls.getD (k / ts.length) 0 else clipI (ls.getD (k / ts.length) 0 + ts.getD (k % ts.length) 0 - c)
def prdL (mode : Int) (ts ls : List Int) (c : Int) : List Int := rowL (ts.length * ts.length) (prdF mode ts ls c)
theorem nbF_bound {t l : Nat → Int} (h : ∀ j, 0 ≤ t j ∧ t j ≤ 255) (k : ∀ j, 0 ≤ l j ∧ l j ≤ 255) (n : Nat) : 0 ≤ nbF t l n ∧ nbF t l n ≤ 510 * n := by
 induction n with
 | zero => simp [nbF]
 | succ n ih => have := h n; have := k n; unfold nbF; push_cast; omega
theorem rowL_succi (k : Nat) (f : Nat → Int) : rowL (k + 1) f = rowL k f ++ [f k] := by
 unfold rowL
 rw [List.range_succ, List.map_append]
 rfl
set_option maxHeartbeats 8000000 in
set_option maxRecDepth 20000 in
theorem predict_0_4 (ts ls : List Int) (c : Int) (v u : Value) (w : World) (ha : Ints w v ts) (hb : Ints w u ls) (hn : ts.length = 4) (hl : ls.length = 4) (hT : ∀ j, 0 ≤ ts.getD j 0 ∧ ts.getD j 0 ≤ 255) (hL : ∀ j, 0 ≤ ls.getD j 0 ∧ ls.getD j 0 ≤ 255) (hc : 0 ≤ c ∧ c ≤ 255) :
 Calls Tryz.prog 136 #[.int .i64 0, v, u, .int .i64 c] w fun e w' => ∃ u, e = .returned u ∧ Ext w w' ∧ Ints w' u (prdL 0 ts ls c) := by
 obtain ⟨i0, hi, hz0, hz1, hz2⟩ := info_parts infoInt
 obtain ⟨g, off, cap, rfl, -, -⟩ := ha.addr (by omega)
 obtain ⟨g', off', cap', rfl, -, -⟩ := hb.addr (by omega)
 have HM : Hid (meanOf ts ls = (4 + nbF (fun i => ts.getD i 0) (fun i => ls.getD i 0) 4) / (2 * 4)) := by show _ = _; unfold meanOf; rw [hn]; rfl
 have HP : Hid (prdL 0 ts ls c = rowL 16 (prdF 0 ts ls c)) := by show _ = _; unfold prdL; rw [hn]
 rw [hn] at ha ⊢
 rw [hl] at hb ⊢
 have HN := Lib.hid hn
 have HLL := Lib.hid hl
 have HT := Lib.hid hT
 have HL := Lib.hid hL
 clear hn hl hT hL
 go_enter Tryz.func136, Tryz.ntmps136
 go_wp2
 go_loopw [10, 21] (fun sv iv wr => ∃ k : Nat, k ≤ 4 ∧ iv = .int .i64 k ∧ sv = .int .i64 (4 + nbF (fun i => ts.getD i 0) (fun i => ls.getD i 0) k) ∧ Ext w wr) (fun _ iv _ => 4 - (intOf iv).toNat)
 case atStart => exact ⟨0, Nat.zero_le _, rfl, rfl, Ext.refl _⟩
 case round =>
  obtain ⟨k, hk, rfl, rfl, hE⟩ := hrel
  by_cases hlt : k < 4
  · obtain ⟨x, hx'⟩ : ∃ x, ts.getD k 0 = x := ⟨_, rfl⟩
    obtain ⟨y, hy'⟩ : ∃ y, ls.getD k 0 = y := ⟨_, rfl⟩
    have cx := hE.cell (ha.at (get_of_lt (by rw [HN.out]; exact hlt)))
    have cy := hE.cell (hb.at (get_of_lt (by rw [HLL.out]; exact hlt)))
    have bx := HT.out k
    have by' := HL.out k
    have b0 := nbF_bound HT.out HL.out k
    have HS : Hid (nbF (fun i => ts.getD i 0) (fun i => ls.getD i 0) (k + 1) = nbF (fun i => ts.getD i 0) (fun i => ls.getD i 0) k + (x + y)) := by show _ = _; rw [← hx', ← hy']; rfl
    rw [hx'] at cx bx
    rw [hy'] at cy by'
    clear hx' hy'
    revert b0 HS
    generalize nbF (fun i => ts.getD i 0) (fun i => ls.getD i 0) k = s
    intro b0 HS
    have e1 : IntKind.i64.wrap (x + y) = x + y := by rw [IntKind.wrap_i64]; omega
    have e2 : IntKind.i64.wrap (4 + s + (x + y)) = 4 + s + (x + y) := by rw [IntKind.wrap_i64]; omega
    go_wp2
    go_quiet (fail)
    go_wp2
    go_roundw
    case rel => exact ⟨k + 1, by omega, by go_num, by rw [HS.out]; congr 1; omega, hE.drewN _⟩
    case measure => simp [intOf]; omega
  · obtain rfl : k = 4 := by omega
    have b0 := nbF_bound HT.out HL.out 4
    have hB0 := hE.size
    revert b0 HM
    generalize nbF (fun i => ts.getD i 0) (fun i => ls.getD i 0) 4 = s
    intro HM b0
    obtain ⟨mean, hmean⟩ : ∃ mean, (4 + s) / (2 * 4) = mean := ⟨_, rfl⟩
    have hmd : (4 + s) / 8 = mean := hmean
    have HMN : Hid (meanOf ts ls = mean) := by show _ = _; rw [HM.out, hmean]
    clear hmean HM
    go_wp2_with (at_make; refine wpList_make_own _ rfl _ _ 22 rfl w.heap.size 3 i0 (.int .i64 0) 1 Tryz.underlying22 hi hz0 hz1 .i64 .i64 _ 16 rfl rfl rfl (by rw [hz2]; omega) (by unfold maxLen; omega) hB0 ?_; intro w2 hown hgrow)
    have hE2 : Ext w w2 := hE.of_below (Below.grown (Below.refl _ _) hgrow (Nat.le_refl _) (fun k hk => by cases hk)) hB0
    clear hgrow hi hz0 hz1 hz2 hE hB0
    go_wp2
    go_loopw [12, 46] (fun bv jv wr => ∃ j : Nat, j ≤ 4 ∧ jv = .int .i64 j ∧ Hid (wr.ownsRow w.heap.size 3 1 bv (j * 4) ((rowL (j * 4) (prdF 0 ts ls c)).map (Value.int .i64))) ∧ Ext w wr) (fun _ jv _ => 4 - (intOf jv).toNat)
    case atStart => exact ⟨0, Nat.zero_le _, rfl, hown, hE2⟩
    case round =>
     clear hown hE2
     obtain ⟨j, hj, rfl, HO, hE⟩ := hrel
     by_cases hlt : j < 4
     · obtain ⟨y, hy'⟩ : ∃ y, ls.getD j 0 = y := ⟨_, rfl⟩
       have cy := hE.cell (hb.at (get_of_lt (by rw [HLL.out]; exact hlt)))
       have by' := HL.out j
       rw [hy'] at cy by'
       have HY := Lib.hid hy'
       have t1 : decide ((j : Int) < 4) = true := decide_eq_true (by omega)
       clear hy'
       go_wp2
       go_loopw [12, 52] (fun bv iv wr => ∃ i : Nat, i ≤ 4 ∧ iv = .int .i64 i ∧ Hid (wr.ownsRow w.heap.size 3 1 bv (j * 4 + i) ((rowL (j * 4 + i) (prdF 0 ts ls c)).map (Value.int .i64))) ∧ Ext w wr) (fun _ iv _ => 4 - (intOf iv).toNat)
       case atStart => exact ⟨0, Nat.zero_le _, rfl, HO.out, hE⟩
       case round =>
        clear HO hE cy
        obtain ⟨i, hi, rfl, HO, hE⟩ := hrel
        have hB := hE.size
        by_cases hit : i < 4
        · obtain ⟨x, hx'⟩ : ∃ x, ts.getD i 0 = x := ⟨_, rfl⟩
          have cx := hE.cell (ha.at (get_of_lt (by rw [HN.out]; exact hit)))
          have bx := HT.out i
          rw [hx'] at cx bx
          obtain ⟨z, hz⟩ : ∃ z, clipI (y + x - c) = z := ⟨_, rfl⟩
          have HC : Hid (∀ W, Calls Tryz.prog 133 #[.int .i64 (y + x - c)] W fun e w' => e = .returned (.int .i64 z) ∧ W = w') := fun W => by rw [← hz]; exact clip_any _ W
          have HS : Hid ((rowL (j * 4 + i + 1) (prdF 0 ts ls c)).map (Value.int .i64) = (rowL (j * 4 + i) (prdF 0 ts ls c)).map (Value.int .i64) ++ [.int .i64 mean]) := by
           show _ = _
           rw [rowL_succi, List.map_append]
           have e1 : (j * 4 + i) % ts.length = i := by rw [HN.out]; omega
           have e2 : (j * 4 + i) / ts.length = j := by rw [HN.out]; omega
           have e3 : prdF 0 ts ls c (j * 4 + i) = mean := by
            unfold prdF
            rw [e1, e2, hx', HY.out, hz, HMN.out]
            rfl
           rw [e3]
           rfl
          clear hx' hz
          go_wp2_with (at_builtin; refine push_int rfl _ _ 22 rfl Tryz.underlying22 _ _ _ _ rfl HO.out (by show Value.slice (some ⟨wr.heap.size, 0, none⟩) 1 1 = _; simp) hB (by omega) ?_; intro v' w7 h1 h2)
          have HO7 := Lib.hid h1
          have hE7 := hE.of_below h2 (Nat.le_refl _)
          clear h1 h2 HO hE
          go_wp2
          go_roundw
          case rel => exact ⟨i + 1, by omega, by go_num, by
           show World.ownsRow _ _ _ _ _ _ _
           rw [show j * 4 + (i + 1) = j * 4 + i + 1 by omega, HS.out]
           exact HO7.out, hE7⟩
          case measure => simp [intOf]; omega
        · obtain rfl : i = 4 := by omega
          go_wp2
          go_roundw
          case rel => exact ⟨j + 1, by omega, by go_num, by
           show World.ownsRow _ _ _ _ _ _ _
           rw [show (j + 1) * 4 = j * 4 + 4 by omega]
           exact HO.out, hE⟩
          case measure => simp [intOf]; omega
     · obtain rfl : j = 4 := by omega
       go_wp2
       go_ret
       exact ⟨_, rfl, hE, by rw [HP.out]; exact Ints.of_row HO.out (by omega)⟩
set_option maxHeartbeats 8000000 in
set_option maxRecDepth 20000 in
theorem predict_1_4 (ts ls : List Int) (c : Int) (v u : Value) (w : World) (ha : Ints w v ts) (hb : Ints w u ls) (hn : ts.length = 4) (hl : ls.length = 4) (hT : ∀ j, 0 ≤ ts.getD j 0 ∧ ts.getD j 0 ≤ 255) (hL : ∀ j, 0 ≤ ls.getD j 0 ∧ ls.getD j 0 ≤ 255) (hc : 0 ≤ c ∧ c ≤ 255) :
 Calls Tryz.prog 136 #[.int .i64 1, v, u, .int .i64 c] w fun e w' => ∃ u, e = .returned u ∧ Ext w w' ∧ Ints w' u (prdL 1 ts ls c) := by
 obtain ⟨i0, hi, hz0, hz1, hz2⟩ := info_parts infoInt
 obtain ⟨g, off, cap, rfl, -, -⟩ := ha.addr (by omega)
 obtain ⟨g', off', cap', rfl, -, -⟩ := hb.addr (by omega)
 have HM : Hid (meanOf ts ls = (4 + nbF (fun i => ts.getD i 0) (fun i => ls.getD i 0) 4) / (2 * 4)) := by show _ = _; unfold meanOf; rw [hn]; rfl
 have HP : Hid (prdL 1 ts ls c = rowL 16 (prdF 1 ts ls c)) := by show _ = _; unfold prdL; rw [hn]
 rw [hn] at ha ⊢
 rw [hl] at hb ⊢
 have HN := Lib.hid hn
 have HLL := Lib.hid hl
 have HT := Lib.hid hT
 have HL := Lib.hid hL
 clear hn hl hT hL
 go_enter Tryz.func136, Tryz.ntmps136
 go_wp2
 go_loopw [10, 21] (fun sv iv wr => ∃ k : Nat, k ≤ 4 ∧ iv = .int .i64 k ∧ sv = .int .i64 (4 + nbF (fun i => ts.getD i 0) (fun i => ls.getD i 0) k) ∧ Ext w wr) (fun _ iv _ => 4 - (intOf iv).toNat)
 case atStart => exact ⟨0, Nat.zero_le _, rfl, rfl, Ext.refl _⟩
 case round =>
  obtain ⟨k, hk, rfl, rfl, hE⟩ := hrel
  by_cases hlt : k < 4
  · obtain ⟨x, hx'⟩ : ∃ x, ts.getD k 0 = x := ⟨_, rfl⟩
    obtain ⟨y, hy'⟩ : ∃ y, ls.getD k 0 = y := ⟨_, rfl⟩
    have cx := hE.cell (ha.at (get_of_lt (by rw [HN.out]; exact hlt)))
    have cy := hE.cell (hb.at (get_of_lt (by rw [HLL.out]; exact hlt)))
    have bx := HT.out k
    have by' := HL.out k
    have b0 := nbF_bound HT.out HL.out k
    have HS : Hid (nbF (fun i => ts.getD i 0) (fun i => ls.getD i 0) (k + 1) = nbF (fun i => ts.getD i 0) (fun i => ls.getD i 0) k + (x + y)) := by show _ = _; rw [← hx', ← hy']; rfl
    rw [hx'] at cx bx
    rw [hy'] at cy by'
    clear hx' hy'
    revert b0 HS
    generalize nbF (fun i => ts.getD i 0) (fun i => ls.getD i 0) k = s
    intro b0 HS
    have e1 : IntKind.i64.wrap (x + y) = x + y := by rw [IntKind.wrap_i64]; omega
    have e2 : IntKind.i64.wrap (4 + s + (x + y)) = 4 + s + (x + y) := by rw [IntKind.wrap_i64]; omega
    go_wp2
    go_quiet (fail)
    go_wp2
    go_roundw
    case rel => exact ⟨k + 1, by omega, by go_num, by rw [HS.out]; congr 1; omega, hE.drewN _⟩
    case measure => simp [intOf]; omega
  · obtain rfl : k = 4 := by omega
    have b0 := nbF_bound HT.out HL.out 4
    have hB0 := hE.size
    revert b0 HM
    generalize nbF (fun i => ts.getD i 0) (fun i => ls.getD i 0) 4 = s
    intro HM b0
    obtain ⟨mean, hmean⟩ : ∃ mean, (4 + s) / (2 * 4) = mean := ⟨_, rfl⟩
    have hmd : (4 + s) / 8 = mean := hmean
    have HMN : Hid (meanOf ts ls = mean) := by show _ = _; rw [HM.out, hmean]
    clear hmean HM
    go_wp2_with (at_make; refine wpList_make_own _ rfl _ _ 22 rfl w.heap.size 3 i0 (.int .i64 0) 1 Tryz.underlying22 hi hz0 hz1 .i64 .i64 _ 16 rfl rfl rfl (by rw [hz2]; omega) (by unfold maxLen; omega) hB0 ?_; intro w2 hown hgrow)
    have hE2 : Ext w w2 := hE.of_below (Below.grown (Below.refl _ _) hgrow (Nat.le_refl _) (fun k hk => by cases hk)) hB0
    clear hgrow hi hz0 hz1 hz2 hE hB0
    go_wp2
    go_loopw [12, 46] (fun bv jv wr => ∃ j : Nat, j ≤ 4 ∧ jv = .int .i64 j ∧ Hid (wr.ownsRow w.heap.size 3 1 bv (j * 4) ((rowL (j * 4) (prdF 1 ts ls c)).map (Value.int .i64))) ∧ Ext w wr) (fun _ jv _ => 4 - (intOf jv).toNat)
    case atStart => exact ⟨0, Nat.zero_le _, rfl, hown, hE2⟩
    case round =>
     clear hown hE2
     obtain ⟨j, hj, rfl, HO, hE⟩ := hrel
     by_cases hlt : j < 4
     · obtain ⟨y, hy'⟩ : ∃ y, ls.getD j 0 = y := ⟨_, rfl⟩
       have cy := hE.cell (hb.at (get_of_lt (by rw [HLL.out]; exact hlt)))
       have by' := HL.out j
       rw [hy'] at cy by'
       have HY := Lib.hid hy'
       have t1 : decide ((j : Int) < 4) = true := decide_eq_true (by omega)
       clear hy'
       go_wp2
       go_loopw [12, 52] (fun bv iv wr => ∃ i : Nat, i ≤ 4 ∧ iv = .int .i64 i ∧ Hid (wr.ownsRow w.heap.size 3 1 bv (j * 4 + i) ((rowL (j * 4 + i) (prdF 1 ts ls c)).map (Value.int .i64))) ∧ Ext w wr) (fun _ iv _ => 4 - (intOf iv).toNat)
       case atStart => exact ⟨0, Nat.zero_le _, rfl, HO.out, hE⟩
       case round =>
        clear HO hE cy
        obtain ⟨i, hi, rfl, HO, hE⟩ := hrel
        have hB := hE.size
        by_cases hit : i < 4
        · obtain ⟨x, hx'⟩ : ∃ x, ts.getD i 0 = x := ⟨_, rfl⟩
          have cx := hE.cell (ha.at (get_of_lt (by rw [HN.out]; exact hit)))
          have bx := HT.out i
          rw [hx'] at cx bx
          obtain ⟨z, hz⟩ : ∃ z, clipI (y + x - c) = z := ⟨_, rfl⟩
          have HC : Hid (∀ W, Calls Tryz.prog 133 #[.int .i64 (y + x - c)] W fun e w' => e = .returned (.int .i64 z) ∧ W = w') := fun W => by rw [← hz]; exact clip_any _ W
          have HS : Hid ((rowL (j * 4 + i + 1) (prdF 1 ts ls c)).map (Value.int .i64) = (rowL (j * 4 + i) (prdF 1 ts ls c)).map (Value.int .i64) ++ [.int .i64 x]) := by
           show _ = _
           rw [rowL_succi, List.map_append]
           have e1 : (j * 4 + i) % ts.length = i := by rw [HN.out]; omega
           have e2 : (j * 4 + i) / ts.length = j := by rw [HN.out]; omega
           have e3 : prdF 1 ts ls c (j * 4 + i) = x := by
            unfold prdF
            rw [e1, e2, hx', HY.out, hz, HMN.out]
            rfl
           rw [e3]
           rfl
          clear hx' hz
          go_wp2_with (at_builtin; refine push_int rfl _ _ 22 rfl Tryz.underlying22 _ _ _ _ rfl HO.out (by show Value.slice (some ⟨wr.heap.size, 0, none⟩) 1 1 = _; simp) hB (by omega) ?_; intro v' w7 h1 h2)
          have HO7 := Lib.hid h1
          have hE7 := hE.of_below h2 (Nat.le_refl _)
          clear h1 h2 HO hE
          go_wp2
          go_roundw
          case rel => exact ⟨i + 1, by omega, by go_num, by
           show World.ownsRow _ _ _ _ _ _ _
           rw [show j * 4 + (i + 1) = j * 4 + i + 1 by omega, HS.out]
           exact HO7.out, hE7⟩
          case measure => simp [intOf]; omega
        · obtain rfl : i = 4 := by omega
          go_wp2
          go_roundw
          case rel => exact ⟨j + 1, by omega, by go_num, by
           show World.ownsRow _ _ _ _ _ _ _
           rw [show (j + 1) * 4 = j * 4 + 4 by omega]
           exact HO.out, hE⟩
          case measure => simp [intOf]; omega
     · obtain rfl : j = 4 := by omega
       go_wp2
       go_ret
       exact ⟨_, rfl, hE, by rw [HP.out]; exact Ints.of_row HO.out (by omega)⟩
set_option maxHeartbeats 8000000 in
set_option maxRecDepth 20000 in
theorem predict_2_4 (ts ls : List Int) (c : Int) (v u : Value) (w : World) (ha : Ints w v ts) (hb : Ints w u ls) (hn : ts.length = 4) (hl : ls.length = 4) (hT : ∀ j, 0 ≤ ts.getD j 0 ∧ ts.getD j 0 ≤ 255) (hL : ∀ j, 0 ≤ ls.getD j 0 ∧ ls.getD j 0 ≤ 255) (hc : 0 ≤ c ∧ c ≤ 255) :
 Calls Tryz.prog 136 #[.int .i64 2, v, u, .int .i64 c] w fun e w' => ∃ u, e = .returned u ∧ Ext w w' ∧ Ints w' u (prdL 2 ts ls c) := by
 obtain ⟨i0, hi, hz0, hz1, hz2⟩ := info_parts infoInt
 obtain ⟨g, off, cap, rfl, -, -⟩ := ha.addr (by omega)
 obtain ⟨g', off', cap', rfl, -, -⟩ := hb.addr (by omega)
 have HM : Hid (meanOf ts ls = (4 + nbF (fun i => ts.getD i 0) (fun i => ls.getD i 0) 4) / (2 * 4)) := by show _ = _; unfold meanOf; rw [hn]; rfl
 have HP : Hid (prdL 2 ts ls c = rowL 16 (prdF 2 ts ls c)) := by show _ = _; unfold prdL; rw [hn]
 rw [hn] at ha ⊢
 rw [hl] at hb ⊢
 have HN := Lib.hid hn
 have HLL := Lib.hid hl
 have HT := Lib.hid hT
 have HL := Lib.hid hL
 clear hn hl hT hL
 go_enter Tryz.func136, Tryz.ntmps136
 go_wp2
 go_loopw [10, 21] (fun sv iv wr => ∃ k : Nat, k ≤ 4 ∧ iv = .int .i64 k ∧ sv = .int .i64 (4 + nbF (fun i => ts.getD i 0) (fun i => ls.getD i 0) k) ∧ Ext w wr) (fun _ iv _ => 4 - (intOf iv).toNat)
 case atStart => exact ⟨0, Nat.zero_le _, rfl, rfl, Ext.refl _⟩
 case round =>
  obtain ⟨k, hk, rfl, rfl, hE⟩ := hrel
  by_cases hlt : k < 4
  · obtain ⟨x, hx'⟩ : ∃ x, ts.getD k 0 = x := ⟨_, rfl⟩
    obtain ⟨y, hy'⟩ : ∃ y, ls.getD k 0 = y := ⟨_, rfl⟩
    have cx := hE.cell (ha.at (get_of_lt (by rw [HN.out]; exact hlt)))
    have cy := hE.cell (hb.at (get_of_lt (by rw [HLL.out]; exact hlt)))
    have bx := HT.out k
    have by' := HL.out k
    have b0 := nbF_bound HT.out HL.out k
    have HS : Hid (nbF (fun i => ts.getD i 0) (fun i => ls.getD i 0) (k + 1) = nbF (fun i => ts.getD i 0) (fun i => ls.getD i 0) k + (x + y)) := by show _ = _; rw [← hx', ← hy']; rfl
    rw [hx'] at cx bx
    rw [hy'] at cy by'
    clear hx' hy'
    revert b0 HS
    generalize nbF (fun i => ts.getD i 0) (fun i => ls.getD i 0) k = s
    intro b0 HS
    have e1 : IntKind.i64.wrap (x + y) = x + y := by rw [IntKind.wrap_i64]; omega
    have e2 : IntKind.i64.wrap (4 + s + (x + y)) = 4 + s + (x + y) := by rw [IntKind.wrap_i64]; omega
    go_wp2
    go_quiet (fail)
    go_wp2
    go_roundw
    case rel => exact ⟨k + 1, by omega, by go_num, by rw [HS.out]; congr 1; omega, hE.drewN _⟩
    case measure => simp [intOf]; omega
  · obtain rfl : k = 4 := by omega
    have b0 := nbF_bound HT.out HL.out 4
    have hB0 := hE.size
    revert b0 HM
    generalize nbF (fun i => ts.getD i 0) (fun i => ls.getD i 0) 4 = s
    intro HM b0
    obtain ⟨mean, hmean⟩ : ∃ mean, (4 + s) / (2 * 4) = mean := ⟨_, rfl⟩
    have hmd : (4 + s) / 8 = mean := hmean
    have HMN : Hid (meanOf ts ls = mean) := by show _ = _; rw [HM.out, hmean]
    clear hmean HM
    go_wp2_with (at_make; refine wpList_make_own _ rfl _ _ 22 rfl w.heap.size 3 i0 (.int .i64 0) 1 Tryz.underlying22 hi hz0 hz1 .i64 .i64 _ 16 rfl rfl rfl (by rw [hz2]; omega) (by unfold maxLen; omega) hB0 ?_; intro w2 hown hgrow)
    have hE2 : Ext w w2 := hE.of_below (Below.grown (Below.refl _ _) hgrow (Nat.le_refl _) (fun k hk => by cases hk)) hB0
    clear hgrow hi hz0 hz1 hz2 hE hB0
    go_wp2
    go_loopw [12, 46] (fun bv jv wr => ∃ j : Nat, j ≤ 4 ∧ jv = .int .i64 j ∧ Hid (wr.ownsRow w.heap.size 3 1 bv (j * 4) ((rowL (j * 4) (prdF 2 ts ls c)).map (Value.int .i64))) ∧ Ext w wr) (fun _ jv _ => 4 - (intOf jv).toNat)
    case atStart => exact ⟨0, Nat.zero_le _, rfl, hown, hE2⟩
    case round =>
     clear hown hE2
     obtain ⟨j, hj, rfl, HO, hE⟩ := hrel
     by_cases hlt : j < 4
     · obtain ⟨y, hy'⟩ : ∃ y, ls.getD j 0 = y := ⟨_, rfl⟩
       have cy := hE.cell (hb.at (get_of_lt (by rw [HLL.out]; exact hlt)))
       have by' := HL.out j
       rw [hy'] at cy by'
       have HY := Lib.hid hy'
       have t1 : decide ((j : Int) < 4) = true := decide_eq_true (by omega)
       clear hy'
       go_wp2
       go_loopw [12, 52] (fun bv iv wr => ∃ i : Nat, i ≤ 4 ∧ iv = .int .i64 i ∧ Hid (wr.ownsRow w.heap.size 3 1 bv (j * 4 + i) ((rowL (j * 4 + i) (prdF 2 ts ls c)).map (Value.int .i64))) ∧ Ext w wr) (fun _ iv _ => 4 - (intOf iv).toNat)
       case atStart => exact ⟨0, Nat.zero_le _, rfl, HO.out, hE⟩
       case round =>
        clear HO hE cy
        obtain ⟨i, hi, rfl, HO, hE⟩ := hrel
        have hB := hE.size
        by_cases hit : i < 4
        · obtain ⟨x, hx'⟩ : ∃ x, ts.getD i 0 = x := ⟨_, rfl⟩
          have cx := hE.cell (ha.at (get_of_lt (by rw [HN.out]; exact hit)))
          have bx := HT.out i
          rw [hx'] at cx bx
          obtain ⟨z, hz⟩ : ∃ z, clipI (y + x - c) = z := ⟨_, rfl⟩
          have HC : Hid (∀ W, Calls Tryz.prog 133 #[.int .i64 (y + x - c)] W fun e w' => e = .returned (.int .i64 z) ∧ W = w') := fun W => by rw [← hz]; exact clip_any _ W
          have HS : Hid ((rowL (j * 4 + i + 1) (prdF 2 ts ls c)).map (Value.int .i64) = (rowL (j * 4 + i) (prdF 2 ts ls c)).map (Value.int .i64) ++ [.int .i64 y]) := by
           show _ = _
           rw [rowL_succi, List.map_append]
           have e1 : (j * 4 + i) % ts.length = i := by rw [HN.out]; omega
           have e2 : (j * 4 + i) / ts.length = j := by rw [HN.out]; omega
           have e3 : prdF 2 ts ls c (j * 4 + i) = y := by
            unfold prdF
            rw [e1, e2, hx', HY.out, hz, HMN.out]
            rfl
           rw [e3]
           rfl
          clear hx' hz
          go_wp2_with (at_builtin; refine push_int rfl _ _ 22 rfl Tryz.underlying22 _ _ _ _ rfl HO.out (by show Value.slice (some ⟨wr.heap.size, 0, none⟩) 1 1 = _; simp) hB (by omega) ?_; intro v' w7 h1 h2)
          have HO7 := Lib.hid h1
          have hE7 := hE.of_below h2 (Nat.le_refl _)
          clear h1 h2 HO hE
          go_wp2
          go_roundw
          case rel => exact ⟨i + 1, by omega, by go_num, by
           show World.ownsRow _ _ _ _ _ _ _
           rw [show j * 4 + (i + 1) = j * 4 + i + 1 by omega, HS.out]
           exact HO7.out, hE7⟩
          case measure => simp [intOf]; omega
        · obtain rfl : i = 4 := by omega
          go_wp2
          go_roundw
          case rel => exact ⟨j + 1, by omega, by go_num, by
           show World.ownsRow _ _ _ _ _ _ _
           rw [show (j + 1) * 4 = j * 4 + 4 by omega]
           exact HO.out, hE⟩
          case measure => simp [intOf]; omega
     · obtain rfl : j = 4 := by omega
       go_wp2
       go_ret
       exact ⟨_, rfl, hE, by rw [HP.out]; exact Ints.of_row HO.out (by omega)⟩
set_option maxHeartbeats 8000000 in
set_option maxRecDepth 20000 in
theorem predict_3_4 (ts ls : List Int) (c : Int) (v u : Value) (w : World) (ha : Ints w v ts) (hb : Ints w u ls) (hn : ts.length = 4) (hl : ls.length = 4) (hT : ∀ j, 0 ≤ ts.getD j 0 ∧ ts.getD j 0 ≤ 255) (hL : ∀ j, 0 ≤ ls.getD j 0 ∧ ls.getD j 0 ≤ 255) (hc : 0 ≤ c ∧ c ≤ 255) :
 Calls Tryz.prog 136 #[.int .i64 3, v, u, .int .i64 c] w fun e w' => ∃ u, e = .returned u ∧ Ext w w' ∧ Ints w' u (prdL 3 ts ls c) := by
 obtain ⟨i0, hi, hz0, hz1, hz2⟩ := info_parts infoInt
 obtain ⟨g, off, cap, rfl, -, -⟩ := ha.addr (by omega)
 obtain ⟨g', off', cap', rfl, -, -⟩ := hb.addr (by omega)
 have HM : Hid (meanOf ts ls = (4 + nbF (fun i => ts.getD i 0) (fun i => ls.getD i 0) 4) / (2 * 4)) := by show _ = _; unfold meanOf; rw [hn]; rfl
 have HP : Hid (prdL 3 ts ls c = rowL 16 (prdF 3 ts ls c)) := by show _ = _; unfold prdL; rw [hn]
 rw [hn] at ha ⊢
 rw [hl] at hb ⊢
 have HN := Lib.hid hn
 have HLL := Lib.hid hl
 have HT := Lib.hid hT
 have HL := Lib.hid hL
 clear hn hl hT hL
 go_enter Tryz.func136, Tryz.ntmps136
 go_wp2
 go_loopw [10, 21] (fun sv iv wr => ∃ k : Nat, k ≤ 4 ∧ iv = .int .i64 k ∧ sv = .int .i64 (4 + nbF (fun i => ts.getD i 0) (fun i => ls.getD i 0) k) ∧ Ext w wr) (fun _ iv _ => 4 - (intOf iv).toNat)
 case atStart => exact ⟨0, Nat.zero_le _, rfl, rfl, Ext.refl _⟩
 case round =>
  obtain ⟨k, hk, rfl, rfl, hE⟩ := hrel
  by_cases hlt : k < 4
  · obtain ⟨x, hx'⟩ : ∃ x, ts.getD k 0 = x := ⟨_, rfl⟩
    obtain ⟨y, hy'⟩ : ∃ y, ls.getD k 0 = y := ⟨_, rfl⟩
    have cx := hE.cell (ha.at (get_of_lt (by rw [HN.out]; exact hlt)))
    have cy := hE.cell (hb.at (get_of_lt (by rw [HLL.out]; exact hlt)))
    have bx := HT.out k
    have by' := HL.out k
    have b0 := nbF_bound HT.out HL.out k
    have HS : Hid (nbF (fun i => ts.getD i 0) (fun i => ls.getD i 0) (k + 1) = nbF (fun i => ts.getD i 0) (fun i => ls.getD i 0) k + (x + y)) := by show _ = _; rw [← hx', ← hy']; rfl
    rw [hx'] at cx bx
    rw [hy'] at cy by'
    clear hx' hy'
    revert b0 HS
    generalize nbF (fun i => ts.getD i 0) (fun i => ls.getD i 0) k = s
    intro b0 HS
    have e1 : IntKind.i64.wrap (x + y) = x + y := by rw [IntKind.wrap_i64]; omega
    have e2 : IntKind.i64.wrap (4 + s + (x + y)) = 4 + s + (x + y) := by rw [IntKind.wrap_i64]; omega
    go_wp2
    go_quiet (fail)
    go_wp2
    go_roundw
    case rel => exact ⟨k + 1, by omega, by go_num, by rw [HS.out]; congr 1; omega, hE.drewN _⟩
    case measure => simp [intOf]; omega
  · obtain rfl : k = 4 := by omega
    have b0 := nbF_bound HT.out HL.out 4
    have hB0 := hE.size
    revert b0 HM
    generalize nbF (fun i => ts.getD i 0) (fun i => ls.getD i 0) 4 = s
    intro HM b0
    obtain ⟨mean, hmean⟩ : ∃ mean, (4 + s) / (2 * 4) = mean := ⟨_, rfl⟩
    have hmd : (4 + s) / 8 = mean := hmean
    have HMN : Hid (meanOf ts ls = mean) := by show _ = _; rw [HM.out, hmean]
    clear hmean HM
    go_wp2_with (at_make; refine wpList_make_own _ rfl _ _ 22 rfl w.heap.size 3 i0 (.int .i64 0) 1 Tryz.underlying22 hi hz0 hz1 .i64 .i64 _ 16 rfl rfl rfl (by rw [hz2]; omega) (by unfold maxLen; omega) hB0 ?_; intro w2 hown hgrow)
    have hE2 : Ext w w2 := hE.of_below (Below.grown (Below.refl _ _) hgrow (Nat.le_refl _) (fun k hk => by cases hk)) hB0
    clear hgrow hi hz0 hz1 hz2 hE hB0
    go_wp2
    go_loopw [12, 46] (fun bv jv wr => ∃ j : Nat, j ≤ 4 ∧ jv = .int .i64 j ∧ Hid (wr.ownsRow w.heap.size 3 1 bv (j * 4) ((rowL (j * 4) (prdF 3 ts ls c)).map (Value.int .i64))) ∧ Ext w wr) (fun _ jv _ => 4 - (intOf jv).toNat)
    case atStart => exact ⟨0, Nat.zero_le _, rfl, hown, hE2⟩
    case round =>
     clear hown hE2
     obtain ⟨j, hj, rfl, HO, hE⟩ := hrel
     by_cases hlt : j < 4
     · obtain ⟨y, hy'⟩ : ∃ y, ls.getD j 0 = y := ⟨_, rfl⟩
       have cy := hE.cell (hb.at (get_of_lt (by rw [HLL.out]; exact hlt)))
       have by' := HL.out j
       rw [hy'] at cy by'
       have HY := Lib.hid hy'
       have t1 : decide ((j : Int) < 4) = true := decide_eq_true (by omega)
       clear hy'
       go_wp2
       go_loopw [12, 52] (fun bv iv wr => ∃ i : Nat, i ≤ 4 ∧ iv = .int .i64 i ∧ Hid (wr.ownsRow w.heap.size 3 1 bv (j * 4 + i) ((rowL (j * 4 + i) (prdF 3 ts ls c)).map (Value.int .i64))) ∧ Ext w wr) (fun _ iv _ => 4 - (intOf iv).toNat)
       case atStart => exact ⟨0, Nat.zero_le _, rfl, HO.out, hE⟩
       case round =>
        clear HO hE cy
        obtain ⟨i, hi, rfl, HO, hE⟩ := hrel
        have hB := hE.size
        by_cases hit : i < 4
        · obtain ⟨x, hx'⟩ : ∃ x, ts.getD i 0 = x := ⟨_, rfl⟩
          have cx := hE.cell (ha.at (get_of_lt (by rw [HN.out]; exact hit)))
          have bx := HT.out i
          rw [hx'] at cx bx
          obtain ⟨z, hz⟩ : ∃ z, clipI (y + x - c) = z := ⟨_, rfl⟩
          have HC : Hid (∀ W, Calls Tryz.prog 133 #[.int .i64 (y + x - c)] W fun e w' => e = .returned (.int .i64 z) ∧ W = w') := fun W => by rw [← hz]; exact clip_any _ W
          have HS : Hid ((rowL (j * 4 + i + 1) (prdF 3 ts ls c)).map (Value.int .i64) = (rowL (j * 4 + i) (prdF 3 ts ls c)).map (Value.int .i64) ++ [.int .i64 z]) := by
           show _ = _
           rw [rowL_succi, List.map_append]
           have e1 : (j * 4 + i) % ts.length = i := by rw [HN.out]; omega
           have e2 : (j * 4 + i) / ts.length = j := by rw [HN.out]; omega
           have e3 : prdF 3 ts ls c (j * 4 + i) = z := by
            unfold prdF
            rw [e1, e2, hx', HY.out, hz, HMN.out]
            rfl
           rw [e3]
           rfl
          clear hx' hz
          go_wp2_with fail
          refine (HC.out _).mono ?_; rintro e w8 ⟨rfl, rfl⟩
          go_wp2_with (at_builtin; refine push_int rfl _ _ 22 rfl Tryz.underlying22 _ _ _ _ rfl HO.out (by show Value.slice (some ⟨wr.heap.size, 0, none⟩) 1 1 = _; simp) hB (by omega) ?_; intro v' w7 h1 h2)
          have HO7 := Lib.hid h1
          have hE7 := hE.of_below h2 (Nat.le_refl _)
          clear h1 h2 HO hE
          go_wp2
          go_roundw
          case rel => exact ⟨i + 1, by omega, by go_num, by
           show World.ownsRow _ _ _ _ _ _ _
           rw [show j * 4 + (i + 1) = j * 4 + i + 1 by omega, HS.out]
           exact HO7.out, hE7⟩
          case measure => simp [intOf]; omega
        · obtain rfl : i = 4 := by omega
          go_wp2
          go_roundw
          case rel => exact ⟨j + 1, by omega, by go_num, by
           show World.ownsRow _ _ _ _ _ _ _
           rw [show (j + 1) * 4 = j * 4 + 4 by omega]
           exact HO.out, hE⟩
          case measure => simp [intOf]; omega
     · obtain rfl : j = 4 := by omega
       go_wp2
       go_ret
       exact ⟨_, rfl, hE, by rw [HP.out]; exact Ints.of_row HO.out (by omega)⟩
set_option maxHeartbeats 8000000 in
set_option maxRecDepth 20000 in
theorem predict_0_8 (ts ls : List Int) (c : Int) (v u : Value) (w : World) (ha : Ints w v ts) (hb : Ints w u ls) (hn : ts.length = 8) (hl : ls.length = 8) (hT : ∀ j, 0 ≤ ts.getD j 0 ∧ ts.getD j 0 ≤ 255) (hL : ∀ j, 0 ≤ ls.getD j 0 ∧ ls.getD j 0 ≤ 255) (hc : 0 ≤ c ∧ c ≤ 255) :
 Calls Tryz.prog 136 #[.int .i64 0, v, u, .int .i64 c] w fun e w' => ∃ u, e = .returned u ∧ Ext w w' ∧ Ints w' u (prdL 0 ts ls c) := by
 obtain ⟨i0, hi, hz0, hz1, hz2⟩ := info_parts infoInt
 obtain ⟨g, off, cap, rfl, -, -⟩ := ha.addr (by omega)
 obtain ⟨g', off', cap', rfl, -, -⟩ := hb.addr (by omega)
 have HM : Hid (meanOf ts ls = (8 + nbF (fun i => ts.getD i 0) (fun i => ls.getD i 0) 8) / (2 * 8)) := by show _ = _; unfold meanOf; rw [hn]; rfl
 have HP : Hid (prdL 0 ts ls c = rowL 64 (prdF 0 ts ls c)) := by show _ = _; unfold prdL; rw [hn]
 rw [hn] at ha ⊢
 rw [hl] at hb ⊢
 have HN := Lib.hid hn
 have HLL := Lib.hid hl
 have HT := Lib.hid hT
 have HL := Lib.hid hL
 clear hn hl hT hL
 go_enter Tryz.func136, Tryz.ntmps136
 go_wp2
 go_loopw [10, 21] (fun sv iv wr => ∃ k : Nat, k ≤ 8 ∧ iv = .int .i64 k ∧ sv = .int .i64 (8 + nbF (fun i => ts.getD i 0) (fun i => ls.getD i 0) k) ∧ Ext w wr) (fun _ iv _ => 8 - (intOf iv).toNat)
 case atStart => exact ⟨0, Nat.zero_le _, rfl, rfl, Ext.refl _⟩
 case round =>
  obtain ⟨k, hk, rfl, rfl, hE⟩ := hrel
  by_cases hlt : k < 8
  · obtain ⟨x, hx'⟩ : ∃ x, ts.getD k 0 = x := ⟨_, rfl⟩
    obtain ⟨y, hy'⟩ : ∃ y, ls.getD k 0 = y := ⟨_, rfl⟩
    have cx := hE.cell (ha.at (get_of_lt (by rw [HN.out]; exact hlt)))
    have cy := hE.cell (hb.at (get_of_lt (by rw [HLL.out]; exact hlt)))
    have bx := HT.out k
    have by' := HL.out k
    have b0 := nbF_bound HT.out HL.out k
    have HS : Hid (nbF (fun i => ts.getD i 0) (fun i => ls.getD i 0) (k + 1) = nbF (fun i => ts.getD i 0) (fun i => ls.getD i 0) k + (x + y)) := by show _ = _; rw [← hx', ← hy']; rfl
    rw [hx'] at cx bx
    rw [hy'] at cy by'
    clear hx' hy'
    revert b0 HS
    generalize nbF (fun i => ts.getD i 0) (fun i => ls.getD i 0) k = s
    intro b0 HS
    have e1 : IntKind.i64.wrap (x + y) = x + y := by rw [IntKind.wrap_i64]; omega
    have e2 : IntKind.i64.wrap (8 + s + (x + y)) = 8 + s + (x + y) := by rw [IntKind.wrap_i64]; omega
    go_wp2
    go_quiet (fail)
    go_wp2
    go_roundw
    case rel => exact ⟨k + 1, by omega, by go_num, by rw [HS.out]; congr 1; omega, hE.drewN _⟩
    case measure => simp [intOf]; omega
  · obtain rfl : k = 8 := by omega
    have b0 := nbF_bound HT.out HL.out 8
    have hB0 := hE.size
    revert b0 HM
    generalize nbF (fun i => ts.getD i 0) (fun i => ls.getD i 0) 8 = s
    intro HM b0
    obtain ⟨mean, hmean⟩ : ∃ mean, (8 + s) / (2 * 8) = mean := ⟨_, rfl⟩
    have hmd : (8 + s) / 16 = mean := hmean
    have HMN : Hid (meanOf ts ls = mean) := by show _ = _; rw [HM.out, hmean]
    clear hmean HM
    go_wp2_with (at_make; refine wpList_make_own _ rfl _ _ 22 rfl w.heap.size 3 i0 (.int .i64 0) 1 Tryz.underlying22 hi hz0 hz1 .i64 .i64 _ 64 rfl rfl rfl (by rw [hz2]; omega) (by unfold maxLen; omega) hB0 ?_; intro w2 hown hgrow)
    have hE2 : Ext w w2 := hE.of_below (Below.grown (Below.refl _ _) hgrow (Nat.le_refl _) (fun k hk => by cases hk)) hB0
    clear hgrow hi hz0 hz1 hz2 hE hB0
    go_wp2
    go_loopw [12, 46] (fun bv jv wr => ∃ j : Nat, j ≤ 8 ∧ jv = .int .i64 j ∧ Hid (wr.ownsRow w.heap.size 3 1 bv (j * 8) ((rowL (j * 8) (prdF 0 ts ls c)).map (Value.int .i64))) ∧ Ext w wr) (fun _ jv _ => 8 - (intOf jv).toNat)
    case atStart => exact ⟨0, Nat.zero_le _, rfl, hown, hE2⟩
    case round =>
     clear hown hE2
     obtain ⟨j, hj, rfl, HO, hE⟩ := hrel
     by_cases hlt : j < 8
     · obtain ⟨y, hy'⟩ : ∃ y, ls.getD j 0 = y := ⟨_, rfl⟩
       have cy := hE.cell (hb.at (get_of_lt (by rw [HLL.out]; exact hlt)))
       have by' := HL.out j
       rw [hy'] at cy by'
       have HY := Lib.hid hy'
       have t1 : decide ((j : Int) < 8) = true := decide_eq_true (by omega)
       clear hy'
       go_wp2
       go_loopw [12, 52] (fun bv iv wr => ∃ i : Nat, i ≤ 8 ∧ iv = .int .i64 i ∧ Hid (wr.ownsRow w.heap.size 3 1 bv (j * 8 + i) ((rowL (j * 8 + i) (prdF 0 ts ls c)).map (Value.int .i64))) ∧ Ext w wr) (fun _ iv _ => 8 - (intOf iv).toNat)
       case atStart => exact ⟨0, Nat.zero_le _, rfl, HO.out, hE⟩
       case round =>
        clear HO hE cy
        obtain ⟨i, hi, rfl, HO, hE⟩ := hrel
        have hB := hE.size
        by_cases hit : i < 8
        · obtain ⟨x, hx'⟩ : ∃ x, ts.getD i 0 = x := ⟨_, rfl⟩
          have cx := hE.cell (ha.at (get_of_lt (by rw [HN.out]; exact hit)))
          have bx := HT.out i
          rw [hx'] at cx bx
          obtain ⟨z, hz⟩ : ∃ z, clipI (y + x - c) = z := ⟨_, rfl⟩
          have HC : Hid (∀ W, Calls Tryz.prog 133 #[.int .i64 (y + x - c)] W fun e w' => e = .returned (.int .i64 z) ∧ W = w') := fun W => by rw [← hz]; exact clip_any _ W
          have HS : Hid ((rowL (j * 8 + i + 1) (prdF 0 ts ls c)).map (Value.int .i64) = (rowL (j * 8 + i) (prdF 0 ts ls c)).map (Value.int .i64) ++ [.int .i64 mean]) := by
           show _ = _
           rw [rowL_succi, List.map_append]
           have e1 : (j * 8 + i) % ts.length = i := by rw [HN.out]; omega
           have e2 : (j * 8 + i) / ts.length = j := by rw [HN.out]; omega
           have e3 : prdF 0 ts ls c (j * 8 + i) = mean := by
            unfold prdF
            rw [e1, e2, hx', HY.out, hz, HMN.out]
            rfl
           rw [e3]
           rfl
          clear hx' hz
          go_wp2_with (at_builtin; refine push_int rfl _ _ 22 rfl Tryz.underlying22 _ _ _ _ rfl HO.out (by show Value.slice (some ⟨wr.heap.size, 0, none⟩) 1 1 = _; simp) hB (by omega) ?_; intro v' w7 h1 h2)
          have HO7 := Lib.hid h1
          have hE7 := hE.of_below h2 (Nat.le_refl _)
          clear h1 h2 HO hE
          go_wp2
          go_roundw
          case rel => exact ⟨i + 1, by omega, by go_num, by
           show World.ownsRow _ _ _ _ _ _ _
           rw [show j * 8 + (i + 1) = j * 8 + i + 1 by omega, HS.out]
           exact HO7.out, hE7⟩
          case measure => simp [intOf]; omega
        · obtain rfl : i = 8 := by omega
          go_wp2
          go_roundw
          case rel => exact ⟨j + 1, by omega, by go_num, by
           show World.ownsRow _ _ _ _ _ _ _
           rw [show (j + 1) * 8 = j * 8 + 8 by omega]
           exact HO.out, hE⟩
          case measure => simp [intOf]; omega
     · obtain rfl : j = 8 := by omega
       go_wp2
       go_ret
       exact ⟨_, rfl, hE, by rw [HP.out]; exact Ints.of_row HO.out (by omega)⟩
set_option maxHeartbeats 8000000 in
set_option maxRecDepth 20000 in
theorem predict_1_8 (ts ls : List Int) (c : Int) (v u : Value) (w : World) (ha : Ints w v ts) (hb : Ints w u ls) (hn : ts.length = 8) (hl : ls.length = 8) (hT : ∀ j, 0 ≤ ts.getD j 0 ∧ ts.getD j 0 ≤ 255) (hL : ∀ j, 0 ≤ ls.getD j 0 ∧ ls.getD j 0 ≤ 255) (hc : 0 ≤ c ∧ c ≤ 255) :
 Calls Tryz.prog 136 #[.int .i64 1, v, u, .int .i64 c] w fun e w' => ∃ u, e = .returned u ∧ Ext w w' ∧ Ints w' u (prdL 1 ts ls c) := by
 obtain ⟨i0, hi, hz0, hz1, hz2⟩ := info_parts infoInt
 obtain ⟨g, off, cap, rfl, -, -⟩ := ha.addr (by omega)
 obtain ⟨g', off', cap', rfl, -, -⟩ := hb.addr (by omega)
 have HM : Hid (meanOf ts ls = (8 + nbF (fun i => ts.getD i 0) (fun i => ls.getD i 0) 8) / (2 * 8)) := by show _ = _; unfold meanOf; rw [hn]; rfl
 have HP : Hid (prdL 1 ts ls c = rowL 64 (prdF 1 ts ls c)) := by show _ = _; unfold prdL; rw [hn]
 rw [hn] at ha ⊢
 rw [hl] at hb ⊢
 have HN := Lib.hid hn
 have HLL := Lib.hid hl
 have HT := Lib.hid hT
 have HL := Lib.hid hL
 clear hn hl hT hL
 go_enter Tryz.func136, Tryz.ntmps136
 go_wp2
 go_loopw [10, 21] (fun sv iv wr => ∃ k : Nat, k ≤ 8 ∧ iv = .int .i64 k ∧ sv = .int .i64 (8 + nbF (fun i => ts.getD i 0) (fun i => ls.getD i 0) k) ∧ Ext w wr) (fun _ iv _ => 8 - (intOf iv).toNat)
 case atStart => exact ⟨0, Nat.zero_le _, rfl, rfl, Ext.refl _⟩
 case round =>
  obtain ⟨k, hk, rfl, rfl, hE⟩ := hrel
  by_cases hlt : k < 8
  · obtain ⟨x, hx'⟩ : ∃ x, ts.getD k 0 = x := ⟨_, rfl⟩
    obtain ⟨y, hy'⟩ : ∃ y, ls.getD k 0 = y := ⟨_, rfl⟩
    have cx := hE.cell (ha.at (get_of_lt (by rw [HN.out]; exact hlt)))
    have cy := hE.cell (hb.at (get_of_lt (by rw [HLL.out]; exact hlt)))
    have bx := HT.out k
    have by' := HL.out k
    have b0 := nbF_bound HT.out HL.out k
    have HS : Hid (nbF (fun i => ts.getD i 0) (fun i => ls.getD i 0) (k + 1) = nbF (fun i => ts.getD i 0) (fun i => ls.getD i 0) k + (x + y)) := by show _ = _; rw [← hx', ← hy']; rfl
    rw [hx'] at cx bx
    rw [hy'] at cy by'
    clear hx' hy'
    revert b0 HS
    generalize nbF (fun i => ts.getD i 0) (fun i => ls.getD i 0) k = s
    intro b0 HS
    have e1 : IntKind.i64.wrap (x + y) = x + y := by rw [IntKind.wrap_i64]; omega
    have e2 : IntKind.i64.wrap (8 + s + (x + y)) = 8 + s + (x + y) := by rw [IntKind.wrap_i64]; omega
    go_wp2
    go_quiet (fail)
    go_wp2
    go_roundw
    case rel => exact ⟨k + 1, by omega, by go_num, by rw [HS.out]; congr 1; omega, hE.drewN _⟩
    case measure => simp [intOf]; omega
  · obtain rfl : k = 8 := by omega
    have b0 := nbF_bound HT.out HL.out 8
    have hB0 := hE.size
    revert b0 HM
    generalize nbF (fun i => ts.getD i 0) (fun i => ls.getD i 0) 8 = s
    intro HM b0
    obtain ⟨mean, hmean⟩ : ∃ mean, (8 + s) / (2 * 8) = mean := ⟨_, rfl⟩
    have hmd : (8 + s) / 16 = mean := hmean
    have HMN : Hid (meanOf ts ls = mean) := by show _ = _; rw [HM.out, hmean]
    clear hmean HM
    go_wp2_with (at_make; refine wpList_make_own _ rfl _ _ 22 rfl w.heap.size 3 i0 (.int .i64 0) 1 Tryz.underlying22 hi hz0 hz1 .i64 .i64 _ 64 rfl rfl rfl (by rw [hz2]; omega) (by unfold maxLen; omega) hB0 ?_; intro w2 hown hgrow)
    have hE2 : Ext w w2 := hE.of_below (Below.grown (Below.refl _ _) hgrow (Nat.le_refl _) (fun k hk => by cases hk)) hB0
    clear hgrow hi hz0 hz1 hz2 hE hB0
    go_wp2
    go_loopw [12, 46] (fun bv jv wr => ∃ j : Nat, j ≤ 8 ∧ jv = .int .i64 j ∧ Hid (wr.ownsRow w.heap.size 3 1 bv (j * 8) ((rowL (j * 8) (prdF 1 ts ls c)).map (Value.int .i64))) ∧ Ext w wr) (fun _ jv _ => 8 - (intOf jv).toNat)
    case atStart => exact ⟨0, Nat.zero_le _, rfl, hown, hE2⟩
    case round =>
     clear hown hE2
     obtain ⟨j, hj, rfl, HO, hE⟩ := hrel
     by_cases hlt : j < 8
     · obtain ⟨y, hy'⟩ : ∃ y, ls.getD j 0 = y := ⟨_, rfl⟩
       have cy := hE.cell (hb.at (get_of_lt (by rw [HLL.out]; exact hlt)))
       have by' := HL.out j
       rw [hy'] at cy by'
       have HY := Lib.hid hy'
       have t1 : decide ((j : Int) < 8) = true := decide_eq_true (by omega)
       clear hy'
       go_wp2
       go_loopw [12, 52] (fun bv iv wr => ∃ i : Nat, i ≤ 8 ∧ iv = .int .i64 i ∧ Hid (wr.ownsRow w.heap.size 3 1 bv (j * 8 + i) ((rowL (j * 8 + i) (prdF 1 ts ls c)).map (Value.int .i64))) ∧ Ext w wr) (fun _ iv _ => 8 - (intOf iv).toNat)
       case atStart => exact ⟨0, Nat.zero_le _, rfl, HO.out, hE⟩
       case round =>
        clear HO hE cy
        obtain ⟨i, hi, rfl, HO, hE⟩ := hrel
        have hB := hE.size
        by_cases hit : i < 8
        · obtain ⟨x, hx'⟩ : ∃ x, ts.getD i 0 = x := ⟨_, rfl⟩
          have cx := hE.cell (ha.at (get_of_lt (by rw [HN.out]; exact hit)))
          have bx := HT.out i
          rw [hx'] at cx bx
          obtain ⟨z, hz⟩ : ∃ z, clipI (y + x - c) = z := ⟨_, rfl⟩
          have HC : Hid (∀ W, Calls Tryz.prog 133 #[.int .i64 (y + x - c)] W fun e w' => e = .returned (.int .i64 z) ∧ W = w') := fun W => by rw [← hz]; exact clip_any _ W
          have HS : Hid ((rowL (j * 8 + i + 1) (prdF 1 ts ls c)).map (Value.int .i64) = (rowL (j * 8 + i) (prdF 1 ts ls c)).map (Value.int .i64) ++ [.int .i64 x]) := by
           show _ = _
           rw [rowL_succi, List.map_append]
           have e1 : (j * 8 + i) % ts.length = i := by rw [HN.out]; omega
           have e2 : (j * 8 + i) / ts.length = j := by rw [HN.out]; omega
           have e3 : prdF 1 ts ls c (j * 8 + i) = x := by
            unfold prdF
            rw [e1, e2, hx', HY.out, hz, HMN.out]
            rfl
           rw [e3]
           rfl
          clear hx' hz
          go_wp2_with (at_builtin; refine push_int rfl _ _ 22 rfl Tryz.underlying22 _ _ _ _ rfl HO.out (by show Value.slice (some ⟨wr.heap.size, 0, none⟩) 1 1 = _; simp) hB (by omega) ?_; intro v' w7 h1 h2)
          have HO7 := Lib.hid h1
          have hE7 := hE.of_below h2 (Nat.le_refl _)
          clear h1 h2 HO hE
          go_wp2
          go_roundw
          case rel => exact ⟨i + 1, by omega, by go_num, by
           show World.ownsRow _ _ _ _ _ _ _
           rw [show j * 8 + (i + 1) = j * 8 + i + 1 by omega, HS.out]
           exact HO7.out, hE7⟩
          case measure => simp [intOf]; omega
        · obtain rfl : i = 8 := by omega
          go_wp2
          go_roundw
          case rel => exact ⟨j + 1, by omega, by go_num, by
           show World.ownsRow _ _ _ _ _ _ _
           rw [show (j + 1) * 8 = j * 8 + 8 by omega]
           exact HO.out, hE⟩
          case measure => simp [intOf]; omega
     · obtain rfl : j = 8 := by omega
       go_wp2
       go_ret
       exact ⟨_, rfl, hE, by rw [HP.out]; exact Ints.of_row HO.out (by omega)⟩
set_option maxHeartbeats 8000000 in
set_option maxRecDepth 20000 in
theorem predict_2_8 (ts ls : List Int) (c : Int) (v u : Value) (w : World) (ha : Ints w v ts) (hb : Ints w u ls) (hn : ts.length = 8) (hl : ls.length = 8) (hT : ∀ j, 0 ≤ ts.getD j 0 ∧ ts.getD j 0 ≤ 255) (hL : ∀ j, 0 ≤ ls.getD j 0 ∧ ls.getD j 0 ≤ 255) (hc : 0 ≤ c ∧ c ≤ 255) :
 Calls Tryz.prog 136 #[.int .i64 2, v, u, .int .i64 c] w fun e w' => ∃ u, e = .returned u ∧ Ext w w' ∧ Ints w' u (prdL 2 ts ls c) := by
 obtain ⟨i0, hi, hz0, hz1, hz2⟩ := info_parts infoInt
 obtain ⟨g, off, cap, rfl, -, -⟩ := ha.addr (by omega)
 obtain ⟨g', off', cap', rfl, -, -⟩ := hb.addr (by omega)
 have HM : Hid (meanOf ts ls = (8 + nbF (fun i => ts.getD i 0) (fun i => ls.getD i 0) 8) / (2 * 8)) := by show _ = _; unfold meanOf; rw [hn]; rfl
 have HP : Hid (prdL 2 ts ls c = rowL 64 (prdF 2 ts ls c)) := by show _ = _; unfold prdL; rw [hn]
 rw [hn] at ha ⊢
 rw [hl] at hb ⊢
 have HN := Lib.hid hn
 have HLL := Lib.hid hl
 have HT := Lib.hid hT
 have HL := Lib.hid hL
 clear hn hl hT hL
 go_enter Tryz.func136, Tryz.ntmps136
 go_wp2
 go_loopw [10, 21] (fun sv iv wr => ∃ k : Nat, k ≤ 8 ∧ iv = .int .i64 k ∧ sv = .int .i64 (8 + nbF (fun i => ts.getD i 0) (fun i => ls.getD i 0) k) ∧ Ext w wr) (fun _ iv _ => 8 - (intOf iv).toNat)
 case atStart => exact ⟨0, Nat.zero_le _, rfl, rfl, Ext.refl _⟩
 case round =>
  obtain ⟨k, hk, rfl, rfl, hE⟩ := hrel
  by_cases hlt : k < 8
  · obtain ⟨x, hx'⟩ : ∃ x, ts.getD k 0 = x := ⟨_, rfl⟩
    obtain ⟨y, hy'⟩ : ∃ y, ls.getD k 0 = y := ⟨_, rfl⟩
    have cx := hE.cell (ha.at (get_of_lt (by rw [HN.out]; exact hlt)))
    have cy := hE.cell (hb.at (get_of_lt (by rw [HLL.out]; exact hlt)))
    have bx := HT.out k
    have by' := HL.out k
    have b0 := nbF_bound HT.out HL.out k
    have HS : Hid (nbF (fun i => ts.getD i 0) (fun i => ls.getD i 0) (k + 1) = nbF (fun i => ts.getD i 0) (fun i => ls.getD i 0) k + (x + y)) := by show _ = _; rw [← hx', ← hy']; rfl
    rw [hx'] at cx bx
    rw [hy'] at cy by'
    clear hx' hy'
    revert b0 HS
    generalize nbF (fun i => ts.getD i 0) (fun i => ls.getD i 0) k = s
    intro b0 HS
    have e1 : IntKind.i64.wrap (x + y) = x + y := by rw [IntKind.wrap_i64]; omega
    have e2 : IntKind.i64.wrap (8 + s + (x + y)) = 8 + s + (x + y) := by rw [IntKind.wrap_i64]; omega
    go_wp2
    go_quiet (fail)
    go_wp2
    go_roundw
    case rel => exact ⟨k + 1, by omega, by go_num, by rw [HS.out]; congr 1; omega, hE.drewN _⟩
    case measure => simp [intOf]; omega
  · obtain rfl : k = 8 := by omega
    have b0 := nbF_bound HT.out HL.out 8
    have hB0 := hE.size
    revert b0 HM
    generalize nbF (fun i => ts.getD i 0) (fun i => ls.getD i 0) 8 = s
    intro HM b0
    obtain ⟨mean, hmean⟩ : ∃ mean, (8 + s) / (2 * 8) = mean := ⟨_, rfl⟩
    have hmd : (8 + s) / 16 = mean := hmean
    have HMN : Hid (meanOf ts ls = mean) := by show _ = _; rw [HM.out, hmean]
    clear hmean HM
    go_wp2_with (at_make; refine wpList_make_own _ rfl _ _ 22 rfl w.heap.size 3 i0 (.int .i64 0) 1 Tryz.underlying22 hi hz0 hz1 .i64 .i64 _ 64 rfl rfl rfl (by rw [hz2]; omega) (by unfold maxLen; omega) hB0 ?_; intro w2 hown hgrow)
    have hE2 : Ext w w2 := hE.of_below (Below.grown (Below.refl _ _) hgrow (Nat.le_refl _) (fun k hk => by cases hk)) hB0
    clear hgrow hi hz0 hz1 hz2 hE hB0
    go_wp2
    go_loopw [12, 46] (fun bv jv wr => ∃ j : Nat, j ≤ 8 ∧ jv = .int .i64 j ∧ Hid (wr.ownsRow w.heap.size 3 1 bv (j * 8) ((rowL (j * 8) (prdF 2 ts ls c)).map (Value.int .i64))) ∧ Ext w wr) (fun _ jv _ => 8 - (intOf jv).toNat)
    case atStart => exact ⟨0, Nat.zero_le _, rfl, hown, hE2⟩
    case round =>
     clear hown hE2
     obtain ⟨j, hj, rfl, HO, hE⟩ := hrel
     by_cases hlt : j < 8
     · obtain ⟨y, hy'⟩ : ∃ y, ls.getD j 0 = y := ⟨_, rfl⟩
       have cy := hE.cell (hb.at (get_of_lt (by rw [HLL.out]; exact hlt)))
       have by' := HL.out j
       rw [hy'] at cy by'
       have HY := Lib.hid hy'
       have t1 : decide ((j : Int) < 8) = true := decide_eq_true (by omega)
       clear hy'
       go_wp2
       go_loopw [12, 52] (fun bv iv wr => ∃ i : Nat, i ≤ 8 ∧ iv = .int .i64 i ∧ Hid (wr.ownsRow w.heap.size 3 1 bv (j * 8 + i) ((rowL (j * 8 + i) (prdF 2 ts ls c)).map (Value.int .i64))) ∧ Ext w wr) (fun _ iv _ => 8 - (intOf iv).toNat)
       case atStart => exact ⟨0, Nat.zero_le _, rfl, HO.out, hE⟩
       case round =>
        clear HO hE cy
        obtain ⟨i, hi, rfl, HO, hE⟩ := hrel
        have hB := hE.size
        by_cases hit : i < 8
        · obtain ⟨x, hx'⟩ : ∃ x, ts.getD i 0 = x := ⟨_, rfl⟩
          have cx := hE.cell (ha.at (get_of_lt (by rw [HN.out]; exact hit)))
          have bx := HT.out i
          rw [hx'] at cx bx
          obtain ⟨z, hz⟩ : ∃ z, clipI (y + x - c) = z := ⟨_, rfl⟩
          have HC : Hid (∀ W, Calls Tryz.prog 133 #[.int .i64 (y + x - c)] W fun e w' => e = .returned (.int .i64 z) ∧ W = w') := fun W => by rw [← hz]; exact clip_any _ W
          have HS : Hid ((rowL (j * 8 + i + 1) (prdF 2 ts ls c)).map (Value.int .i64) = (rowL (j * 8 + i) (prdF 2 ts ls c)).map (Value.int .i64) ++ [.int .i64 y]) := by
           show _ = _
           rw [rowL_succi, List.map_append]
           have e1 : (j * 8 + i) % ts.length = i := by rw [HN.out]; omega
           have e2 : (j * 8 + i) / ts.length = j := by rw [HN.out]; omega
           have e3 : prdF 2 ts ls c (j * 8 + i) = y := by
            unfold prdF
            rw [e1, e2, hx', HY.out, hz, HMN.out]
            rfl
           rw [e3]
           rfl
          clear hx' hz
          go_wp2_with (at_builtin; refine push_int rfl _ _ 22 rfl Tryz.underlying22 _ _ _ _ rfl HO.out (by show Value.slice (some ⟨wr.heap.size, 0, none⟩) 1 1 = _; simp) hB (by omega) ?_; intro v' w7 h1 h2)
          have HO7 := Lib.hid h1
          have hE7 := hE.of_below h2 (Nat.le_refl _)
          clear h1 h2 HO hE
          go_wp2
          go_roundw
          case rel => exact ⟨i + 1, by omega, by go_num, by
           show World.ownsRow _ _ _ _ _ _ _
           rw [show j * 8 + (i + 1) = j * 8 + i + 1 by omega, HS.out]
           exact HO7.out, hE7⟩
          case measure => simp [intOf]; omega
        · obtain rfl : i = 8 := by omega
          go_wp2
          go_roundw
          case rel => exact ⟨j + 1, by omega, by go_num, by
           show World.ownsRow _ _ _ _ _ _ _
           rw [show (j + 1) * 8 = j * 8 + 8 by omega]
           exact HO.out, hE⟩
          case measure => simp [intOf]; omega
     · obtain rfl : j = 8 := by omega
       go_wp2
       go_ret
       exact ⟨_, rfl, hE, by rw [HP.out]; exact Ints.of_row HO.out (by omega)⟩
set_option maxHeartbeats 8000000 in
set_option maxRecDepth 20000 in
theorem predict_3_8 (ts ls : List Int) (c : Int) (v u : Value) (w : World) (ha : Ints w v ts) (hb : Ints w u ls) (hn : ts.length = 8) (hl : ls.length = 8) (hT : ∀ j, 0 ≤ ts.getD j 0 ∧ ts.getD j 0 ≤ 255) (hL : ∀ j, 0 ≤ ls.getD j 0 ∧ ls.getD j 0 ≤ 255) (hc : 0 ≤ c ∧ c ≤ 255) :
 Calls Tryz.prog 136 #[.int .i64 3, v, u, .int .i64 c] w fun e w' => ∃ u, e = .returned u ∧ Ext w w' ∧ Ints w' u (prdL 3 ts ls c) := by
 obtain ⟨i0, hi, hz0, hz1, hz2⟩ := info_parts infoInt
 obtain ⟨g, off, cap, rfl, -, -⟩ := ha.addr (by omega)
 obtain ⟨g', off', cap', rfl, -, -⟩ := hb.addr (by omega)
 have HM : Hid (meanOf ts ls = (8 + nbF (fun i => ts.getD i 0) (fun i => ls.getD i 0) 8) / (2 * 8)) := by show _ = _; unfold meanOf; rw [hn]; rfl
 have HP : Hid (prdL 3 ts ls c = rowL 64 (prdF 3 ts ls c)) := by show _ = _; unfold prdL; rw [hn]
 rw [hn] at ha ⊢
 rw [hl] at hb ⊢
 have HN := Lib.hid hn
 have HLL := Lib.hid hl
 have HT := Lib.hid hT
 have HL := Lib.hid hL
 clear hn hl hT hL
 go_enter Tryz.func136, Tryz.ntmps136
 go_wp2
 go_loopw [10, 21] (fun sv iv wr => ∃ k : Nat, k ≤ 8 ∧ iv = .int .i64 k ∧ sv = .int .i64 (8 + nbF (fun i => ts.getD i 0) (fun i => ls.getD i 0) k) ∧ Ext w wr) (fun _ iv _ => 8 - (intOf iv).toNat)
 case atStart => exact ⟨0, Nat.zero_le _, rfl, rfl, Ext.refl _⟩
 case round =>
  obtain ⟨k, hk, rfl, rfl, hE⟩ := hrel
  by_cases hlt : k < 8
  · obtain ⟨x, hx'⟩ : ∃ x, ts.getD k 0 = x := ⟨_, rfl⟩
    obtain ⟨y, hy'⟩ : ∃ y, ls.getD k 0 = y := ⟨_, rfl⟩
    have cx := hE.cell (ha.at (get_of_lt (by rw [HN.out]; exact hlt)))
    have cy := hE.cell (hb.at (get_of_lt (by rw [HLL.out]; exact hlt)))
    have bx := HT.out k
    have by' := HL.out k
    have b0 := nbF_bound HT.out HL.out k
    have HS : Hid (nbF (fun i => ts.getD i 0) (fun i => ls.getD i 0) (k + 1) = nbF (fun i => ts.getD i 0) (fun i => ls.getD i 0) k + (x + y)) := by show _ = _; rw [← hx', ← hy']; rfl
    rw [hx'] at cx bx
    rw [hy'] at cy by'
    clear hx' hy'
    revert b0 HS
    generalize nbF (fun i => ts.getD i 0) (fun i => ls.getD i 0) k = s
    intro b0 HS
    have e1 : IntKind.i64.wrap (x + y) = x + y := by rw [IntKind.wrap_i64]; omega
    have e2 : IntKind.i64.wrap (8 + s + (x + y)) = 8 + s + (x + y) := by rw [IntKind.wrap_i64]; omega
    go_wp2
    go_quiet (fail)
    go_wp2
    go_roundw
    case rel => exact ⟨k + 1, by omega, by go_num, by rw [HS.out]; congr 1; omega, hE.drewN _⟩
    case measure => simp [intOf]; omega
  · obtain rfl : k = 8 := by omega
    have b0 := nbF_bound HT.out HL.out 8
    have hB0 := hE.size
    revert b0 HM
    generalize nbF (fun i => ts.getD i 0) (fun i => ls.getD i 0) 8 = s
    intro HM b0
    obtain ⟨mean, hmean⟩ : ∃ mean, (8 + s) / (2 * 8) = mean := ⟨_, rfl⟩
    have hmd : (8 + s) / 16 = mean := hmean
    have HMN : Hid (meanOf ts ls = mean) := by show _ = _; rw [HM.out, hmean]
    clear hmean HM
    go_wp2_with (at_make; refine wpList_make_own _ rfl _ _ 22 rfl w.heap.size 3 i0 (.int .i64 0) 1 Tryz.underlying22 hi hz0 hz1 .i64 .i64 _ 64 rfl rfl rfl (by rw [hz2]; omega) (by unfold maxLen; omega) hB0 ?_; intro w2 hown hgrow)
    have hE2 : Ext w w2 := hE.of_below (Below.grown (Below.refl _ _) hgrow (Nat.le_refl _) (fun k hk => by cases hk)) hB0
    clear hgrow hi hz0 hz1 hz2 hE hB0
    go_wp2
    go_loopw [12, 46] (fun bv jv wr => ∃ j : Nat, j ≤ 8 ∧ jv = .int .i64 j ∧ Hid (wr.ownsRow w.heap.size 3 1 bv (j * 8) ((rowL (j * 8) (prdF 3 ts ls c)).map (Value.int .i64))) ∧ Ext w wr) (fun _ jv _ => 8 - (intOf jv).toNat)
    case atStart => exact ⟨0, Nat.zero_le _, rfl, hown, hE2⟩
    case round =>
     clear hown hE2
     obtain ⟨j, hj, rfl, HO, hE⟩ := hrel
     by_cases hlt : j < 8
     · obtain ⟨y, hy'⟩ : ∃ y, ls.getD j 0 = y := ⟨_, rfl⟩
       have cy := hE.cell (hb.at (get_of_lt (by rw [HLL.out]; exact hlt)))
       have by' := HL.out j
       rw [hy'] at cy by'
       have HY := Lib.hid hy'
       have t1 : decide ((j : Int) < 8) = true := decide_eq_true (by omega)
       clear hy'
       go_wp2
       go_loopw [12, 52] (fun bv iv wr => ∃ i : Nat, i ≤ 8 ∧ iv = .int .i64 i ∧ Hid (wr.ownsRow w.heap.size 3 1 bv (j * 8 + i) ((rowL (j * 8 + i) (prdF 3 ts ls c)).map (Value.int .i64))) ∧ Ext w wr) (fun _ iv _ => 8 - (intOf iv).toNat)
       case atStart => exact ⟨0, Nat.zero_le _, rfl, HO.out, hE⟩
       case round =>
        clear HO hE cy
        obtain ⟨i, hi, rfl, HO, hE⟩ := hrel
        have hB := hE.size
        by_cases hit : i < 8
        · obtain ⟨x, hx'⟩ : ∃ x, ts.getD i 0 = x := ⟨_, rfl⟩
          have cx := hE.cell (ha.at (get_of_lt (by rw [HN.out]; exact hit)))
          have bx := HT.out i
          rw [hx'] at cx bx
          obtain ⟨z, hz⟩ : ∃ z, clipI (y + x - c) = z := ⟨_, rfl⟩
          have HC : Hid (∀ W, Calls Tryz.prog 133 #[.int .i64 (y + x - c)] W fun e w' => e = .returned (.int .i64 z) ∧ W = w') := fun W => by rw [← hz]; exact clip_any _ W
          have HS : Hid ((rowL (j * 8 + i + 1) (prdF 3 ts ls c)).map (Value.int .i64) = (rowL (j * 8 + i) (prdF 3 ts ls c)).map (Value.int .i64) ++ [.int .i64 z]) := by
           show _ = _
           rw [rowL_succi, List.map_append]
           have e1 : (j * 8 + i) % ts.length = i := by rw [HN.out]; omega
           have e2 : (j * 8 + i) / ts.length = j := by rw [HN.out]; omega
           have e3 : prdF 3 ts ls c (j * 8 + i) = z := by
            unfold prdF
            rw [e1, e2, hx', HY.out, hz, HMN.out]
            rfl
           rw [e3]
           rfl
          clear hx' hz
          go_wp2_with fail
          refine (HC.out _).mono ?_; rintro e w8 ⟨rfl, rfl⟩
          go_wp2_with (at_builtin; refine push_int rfl _ _ 22 rfl Tryz.underlying22 _ _ _ _ rfl HO.out (by show Value.slice (some ⟨wr.heap.size, 0, none⟩) 1 1 = _; simp) hB (by omega) ?_; intro v' w7 h1 h2)
          have HO7 := Lib.hid h1
          have hE7 := hE.of_below h2 (Nat.le_refl _)
          clear h1 h2 HO hE
          go_wp2
          go_roundw
          case rel => exact ⟨i + 1, by omega, by go_num, by
           show World.ownsRow _ _ _ _ _ _ _
           rw [show j * 8 + (i + 1) = j * 8 + i + 1 by omega, HS.out]
           exact HO7.out, hE7⟩
          case measure => simp [intOf]; omega
        · obtain rfl : i = 8 := by omega
          go_wp2
          go_roundw
          case rel => exact ⟨j + 1, by omega, by go_num, by
           show World.ownsRow _ _ _ _ _ _ _
           rw [show (j + 1) * 8 = j * 8 + 8 by omega]
           exact HO.out, hE⟩
          case measure => simp [intOf]; omega
     · obtain rfl : j = 8 := by omega
       go_wp2
       go_ret
       exact ⟨_, rfl, hE, by rw [HP.out]; exact Ints.of_row HO.out (by omega)⟩
theorem predict_ok (m : Int) (ts ls : List Int) (c : Int) (v u : Value) (w : World) (ha : Ints w v ts) (hb : Ints w u ls) (hm : 0 ≤ m ∧ m ≤ 3) (h : chkAns ts ls c = none) :
 Calls Tryz.prog 136 #[.int .i64 m, v, u, .int .i64 c] w fun e w' => ∃ u, e = .returned u ∧ Ext w w' ∧ Ints w' u (prdL m ts ls c) := by
 obtain ⟨h1, h2, h3, h4, h5⟩ := chkAns_none h
 rcases h1 with h1 | h1
 · rcases (by omega : m = 0 ∨ m = 1 ∨ m = 2 ∨ m = 3) with rfl | rfl | rfl | rfl
   · exact predict_0_4 ts ls c v u w ha hb h1 (by omega) h3 h4 h5
   · exact predict_1_4 ts ls c v u w ha hb h1 (by omega) h3 h4 h5
   · exact predict_2_4 ts ls c v u w ha hb h1 (by omega) h3 h4 h5
   · exact predict_3_4 ts ls c v u w ha hb h1 (by omega) h3 h4 h5
 · rcases (by omega : m = 0 ∨ m = 1 ∨ m = 2 ∨ m = 3) with rfl | rfl | rfl | rfl
   · exact predict_0_8 ts ls c v u w ha hb h1 (by omega) h3 h4 h5
   · exact predict_1_8 ts ls c v u w ha hb h1 (by omega) h3 h4 h5
   · exact predict_2_8 ts ls c v u w ha hb h1 (by omega) h3 h4 h5
   · exact predict_3_8 ts ls c v u w ha hb h1 (by omega) h3 h4 h5
def prdAns (m : Int) (ts ls : List Int) (c : Int) : Fall := if m < 0 ∨ 4 ≤ m then kind else chkAns ts ls c
def prdV (m : Int) (ts ls : List Int) (c : Int) : List Int := match prdAns m ts ls c with
 | none => prdL m ts ls c
 | some _ => []
set_option maxRecDepth 20000 in
set_option maxHeartbeats 1000000 in
theorem Predict_any (m : Int) (ts ls : List Int) (c : Int) (v u : Value) (w : World) (ha : Ints w v ts) (hb : Ints w u ls) :
 Calls Tryz.prog 96 #[.int .i64 m, v, u, .int .i64 c] w (ZPost w (prdV m ts ls c) (prdAns m ts ls c)) := by
 by_cases h1 : m < 0
 · have HA : Hid (prdAns m ts ls c = kind) := by show _ = _; unfold prdAns; rw [if_pos (Or.inl h1)]
   have HV : Hid (prdV m ts ls c = []) := by show _ = _; unfold prdV; rw [HA.out]; rfl
   clear ha hb
   go_enter Tryz.func96, Tryz.ntmps96
   go_wp2
   go_ret2
   exact ⟨_, _, rfl, Ext.refl w, by rw [HV.out]; exact Ints.nil _, by rw [HA.out]; exact ErrIs.code (by decide)⟩
 · by_cases h2 : 4 ≤ m
   · have HA : Hid (prdAns m ts ls c = kind) := by show _ = _; unfold prdAns; rw [if_pos (Or.inr h2)]
     have HV : Hid (prdV m ts ls c = []) := by show _ = _; unfold prdV; rw [HA.out]; rfl
     clear ha hb
     go_enter Tryz.func96, Tryz.ntmps96
     go_wp2
     go_ret2
     exact ⟨_, _, rfl, Ext.refl w, by rw [HV.out]; exact Ints.nil _, by rw [HA.out]; exact ErrIs.code (by decide)⟩
   · have HA : Hid (prdAns m ts ls c = chkAns ts ls c) := by show _ = _; unfold prdAns; rw [if_neg (by omega)]
     have C1 := Lib.hid (icheck_any ts ls c v u w ha hb)
     cases hc : chkAns ts ls c with
     | some f =>
       have HV : Hid (prdV m ts ls c = []) := by show _ = _; unfold prdV; rw [HA.out, hc]
       rw [hc] at HA C1
       clear ha hb hc
       go_enter Tryz.func96, Tryz.ntmps96
       go_wp2_with fail
       refine (C1.out).mono ?_; rintro e w1 ⟨x, rfl, hx, he⟩
       obtain ⟨t, y, rfl⟩ := he.ne
       go_wp2
       go_ret2
       exact ⟨_, _, rfl, hx, by rw [HV.out]; exact Ints.nil _, by rw [HA.out]; exact he⟩
     | none =>
       have HV : Hid (prdV m ts ls c = prdL m ts ls c) := by show _ = _; unfold prdV; rw [HA.out, hc]
       have C2 := Lib.hid (fun W h k => predict_ok m ts ls c v u W h k (by omega) hc)
       rw [hc] at HA C1
       clear hc
       go_enter Tryz.func96, Tryz.ntmps96
       go_wp2_with fail
       refine (C1.out).mono ?_; rintro e w1 ⟨x, rfl, hx, he⟩
       obtain rfl : x = .nilIface := he
       go_wp2_with fail
       refine (C2.out _ (ha.ext (by repeat (first | exact Ext.refl _ | assumption | refine Ext.alloc ?_ _ | refine Ext.drew ?_ | refine Ext.drewN ?_ _ | refine Ext.setCell ?_ (by first | exact Nat.le_refl _ | (simp; done) | omega) _ | refine Ext.trans ?_ (by assumption)))) (hb.ext (by repeat (first | exact Ext.refl _ | assumption | refine Ext.alloc ?_ _ | refine Ext.drew ?_ | refine Ext.drewN ?_ _ | refine Ext.setCell ?_ (by first | exact Nat.le_refl _ | (simp; done) | omega) _ | refine Ext.trans ?_ (by assumption))))).mono ?_; rintro e w2 ⟨u2, rfl, hx2, hz2⟩
       go_wp2
       go_ret2
       exact ⟨_, _, rfl, hx.trans hx2, by rw [HV.out]; exact hz2, by rw [HA.out]; rfl⟩
theorem Ints.liti (w : World) (zs : List Int) (h : zs.length ≤ 1000000) : Ints (w.alloc (.cells (zs.map (Value.int .i64)).toArray 3)) (.slice (some ⟨w.heap.size, 0, none⟩) zs.length zs.length) zs := by
 have := World.ownsRow_lit (e := 3) (base := w.heap.size) (size := 1) w (zs.map (Value.int .i64)).toArray zs.length (Nat.le_refl _) (by unfold maxLen; omega) (by simp)
 simp only [List.toList_toArray] at this
 exact Ints.of_owns this (by omega)
set_option maxRecDepth 20000 in
set_option maxHeartbeats 1000000 in
theorem frame_same (W H : Int) (zs : List Int) (a b : Option Addr) (n m ca cb : Nat) (w : World) (ha : Ints w (.slice a n ca) zs) (hb : Ints w (.slice b m cb) zs) :
 Calls Tryz.prog 16 #[.agg #[.int .i64 W, .int .i64 H, .slice a n ca], .agg #[.int .i64 W, .int .i64 H, .slice b m cb]] w fun e w' => e = .returned (.bool true) ∧ Ext w w' := by
 go_enter Tryz.func16, Tryz.ntmps16
 go_wp2_with fail
 refine (ints_same zs zs _ _ _ (ha.ext (by repeat (first | exact Ext.refl _ | assumption | refine Ext.alloc ?_ _ | refine Ext.drew ?_ | refine Ext.drewN ?_ _ | refine Ext.setCell ?_ (by first | exact Nat.le_refl _ | (simp; done) | omega) _ | refine Ext.trans ?_ (by assumption)))) (hb.ext (by repeat (first | exact Ext.refl _ | assumption | refine Ext.alloc ?_ _ | refine Ext.drew ?_ | refine Ext.drewN ?_ _ | refine Ext.setCell ?_ (by first | exact Nat.le_refl _ | (simp; done) | omega) _ | refine Ext.trans ?_ (by assumption))))).mono ?_; rintro e w1 ⟨rfl, hx1⟩
 rw [decide_eq_true rfl]
 go_wp2
 go_ret
 exact ⟨rfl, (by repeat (first | exact Ext.refl _ | assumption | refine Ext.alloc ?_ _ | refine Ext.drew ?_ | refine Ext.drewN ?_ _ | refine Ext.setCell ?_ (by first | exact Nat.le_refl _ | (simp; done) | omega) _ | refine Ext.trans ?_ (by assumption)))⟩
def liesB (W H x y n : Int) : Bool := decide (0 ≤ x) && decide (0 ≤ y) && decide (x ≤ W - n) && decide (y ≤ H - n)
set_option maxRecDepth 20000 in
set_option maxHeartbeats 1000000 in
theorem lies_any (W H x y n : Int) (v : Value) (a : Option Addr) (m cap : Nat) (w : World) (hv : v = .slice a m cap) (hW : 0 ≤ W ∧ W ≤ 100) (hH : 0 ≤ H ∧ H ≤ 100) (hn : 0 ≤ n ∧ n ≤ 100) :
 Calls Tryz.prog 65 #[.agg #[.int .i64 W, .int .i64 H, v], .int .i64 x, .int .i64 y, .int .i64 n] w fun e w' => e = .returned (.bool (liesB W H x y n)) ∧ Ext w w' := by
 subst hv
 have E1 : Ext w (w.alloc (.cells #[.int .i64 W, .int .i64 H, .slice a m cap] 24)) := (Ext.refl w).alloc _
 have e1 : IntKind.i64.wrap (W - n) = W - n := by rw [IntKind.wrap_i64]; omega
 have e2 : IntKind.i64.wrap (H - n) = H - n := by rw [IntKind.wrap_i64]; omega
 by_cases h1 : 0 ≤ x
 · by_cases h2 : 0 ≤ y
   · by_cases h3 : x ≤ W - n
     · by_cases h4 : y ≤ H - n
       · have HR : Hid (liesB W H x y n = true) := by show _ = _; unfold liesB; simp [h1, h2, h3, h4]
         go_enter Tryz.func65, Tryz.ntmps65
         go_wp2
         go_ret
         exact ⟨by rw [HR.out]; rfl, E1⟩
       · have HR : Hid (liesB W H x y n = false) := by show _ = _; unfold liesB; simp [h1, h2, h3, h4]
         go_enter Tryz.func65, Tryz.ntmps65
         go_wp2
         go_ret
         exact ⟨by rw [HR.out]; rfl, E1⟩
     · have HR : Hid (liesB W H x y n = false) := by show _ = _; unfold liesB; simp [h1, h2, h3]
       go_enter Tryz.func65, Tryz.ntmps65
       go_wp2
       go_ret
       exact ⟨by rw [HR.out]; rfl, E1⟩
   · have HR : Hid (liesB W H x y n = false) := by show _ = _; unfold liesB; simp [h1, h2]
     go_enter Tryz.func65, Tryz.ntmps65
     go_wp2
     go_ret
     exact ⟨by rw [HR.out]; rfl, E1⟩
 · have HR : Hid (liesB W H x y n = false) := by show _ = _; unfold liesB; simp [h1]
   go_enter Tryz.func65, Tryz.ntmps65
   go_wp2
   go_ret
   exact ⟨by rw [HR.out]; rfl, E1⟩
def placeF (W : Int) (zs : List Int) (x y : Int) : Int := if x < 0 ∨ y < 0 then 128 else zs.getD (y * W + x).toNat 0
set_option maxRecDepth 20000 in
set_option maxHeartbeats 1000000 in
theorem sample_any (W H x y : Int) (zs : List Int) (a : Option Addr) (n cap : Nat) (w : World) (h : Ints w (.slice a n cap) zs) (hb : 0 ≤ x → 0 ≤ y → 0 ≤ y * W ∧ y * W ≤ 100000 ∧ y * W + x < n) (hx : x ≤ 100000) :
 Calls Tryz.prog 144 #[.agg #[.int .i64 W, .int .i64 H, .slice a n cap], .int .i64 x, .int .i64 y] w fun e w' => e = .returned (.int .i64 (placeF W zs x y)) ∧ Ext w w' := by
 have E1 : Ext w (w.alloc (.cells #[.int .i64 W, .int .i64 H, .slice a n cap] 24)) := (Ext.refl w).alloc _
 have HN := Lib.hid h.len
 by_cases h1 : x < 0
 · have HR : Hid (placeF W zs x y = 128) := by show _ = _; unfold placeF; rw [if_pos (Or.inl h1)]
   clear hb
   go_enter Tryz.func144, Tryz.ntmps144
   go_wp2
   go_ret
   exact ⟨by rw [HR.out]; rfl, E1⟩
 · by_cases h2 : y < 0
   · have HR : Hid (placeF W zs x y = 128) := by show _ = _; unfold placeF; rw [if_pos (Or.inr h2)]
     clear hb
     go_enter Tryz.func144, Tryz.ntmps144
     go_wp2
     go_ret
     exact ⟨by rw [HR.out]; rfl, E1⟩
   · obtain ⟨b1, b2, b3⟩ := hb (by omega) (by omega)
     obtain ⟨k, hk⟩ : ∃ k : Nat, y * W + x = (k : Int) := ⟨(y * W + x).toNat, by omega⟩
     have hkn : k < n := by omega
     obtain ⟨g, off, rfl⟩ := h.had (by omega)
     have c1 := E1.cell (h.at (get_of_lt (by rw [← HN.out]; exact hkn)))
     have HR : Hid (placeF W zs x y = zs.getD k 0) := by show _ = _; unfold placeF; rw [if_neg (by omega), hk]; rfl
     revert c1 HR
     generalize zs.getD k 0 = z
     intro c1 HR
     have e1 : IntKind.i64.wrap (y * W) = y * W := by rw [IntKind.wrap_i64]; omega
     have e2 : IntKind.i64.wrap (y * W + x) = (k : Int) := by rw [IntKind.wrap_i64]; omega
     have k1 : (0 : Int) ≤ (k : Int) ∧ (k : Int) < (n : Int) := by omega
     clear hb hk
     go_enter Tryz.func144, Tryz.ntmps144
     go_wp2
     go_ret
     exact ⟨by rw [HR.out]; rfl, E1⟩
theorem fr_cells {w : World} {B : Nat} (W H : Int) (v : Value) (h0 : w.cell? ⟨B, 0, none⟩ = some (.int .i64 0)) (h1 : w.cell? ⟨B, 1, none⟩ = some (.int .i64 0)) (h2 : w.cell? ⟨B, 2, none⟩ = some (.slice none 0 0)) :
 (((w.setCell ⟨B, 0, none⟩ (.int .i64 W)).setCell ⟨B, 1, none⟩ (.int .i64 H)).setCell ⟨B, 2, none⟩ v).cell? ⟨B, 0, none⟩ = some (.int .i64 W) ∧
 (((w.setCell ⟨B, 0, none⟩ (.int .i64 W)).setCell ⟨B, 1, none⟩ (.int .i64 H)).setCell ⟨B, 2, none⟩ v).cell? ⟨B, 1, none⟩ = some (.int .i64 H) ∧
 (((w.setCell ⟨B, 0, none⟩ (.int .i64 W)).setCell ⟨B, 1, none⟩ (.int .i64 H)).setCell ⟨B, 2, none⟩ v).cell? ⟨B, 2, none⟩ = some v := by
 have a0 := World.cell?_setCell_same _ _ (.int .i64 W) h0
 have a1 := (World.cell?_setCell_other w ⟨B, 0, none⟩ ⟨B, 1, none⟩ (.int .i64 W) (by simp)).trans h1
 have a2 := (World.cell?_setCell_other w ⟨B, 0, none⟩ ⟨B, 2, none⟩ (.int .i64 W) (by simp)).trans h2
 have b0 := (World.cell?_setCell_other _ ⟨B, 1, none⟩ ⟨B, 0, none⟩ (.int .i64 H) (by simp)).trans a0
 have b1 := World.cell?_setCell_same _ _ (.int .i64 H) a1
 have b2 := (World.cell?_setCell_other _ ⟨B, 1, none⟩ ⟨B, 2, none⟩ (.int .i64 H) (by simp)).trans a2
 have c0 := (World.cell?_setCell_other _ ⟨B, 2, none⟩ ⟨B, 0, none⟩ v (by simp)).trans b0
 have c1 := (World.cell?_setCell_other _ ⟨B, 2, none⟩ ⟨B, 1, none⟩ v (by simp)).trans b1
 have c2 := World.cell?_setCell_same _ _ v b2
 exact ⟨c0, c1, c2⟩
set_option maxRecDepth 20000 in
theorem copy_own (zs : List Int) (v : Value) (w : World) (ha : Ints w v zs) (hl : zs.length ≤ 1000000) :
 Calls Tryz.prog 32 #[v] w fun e w' => ∃ u, e = .returned u ∧ w'.ownsRow w.heap.size 3 1 u zs.length (zs.map (Value.int .i64)) ∧ Ext w w' := by
 obtain ⟨i0, hi, hz0, hz1, hz2⟩ := info_parts infoInt
 obtain ⟨n, hn⟩ : ∃ n, n = zs.length := ⟨_, rfl⟩
 have E1 : Ext w (w.alloc (.cells #[] 3)) := (Ext.refl w).alloc _
 have hown : (w.alloc (.cells #[] 3)).ownsRow w.heap.size 3 1 (.slice (some ⟨w.heap.size, 0, none⟩) 0 0) 0 [] := World.ownsRow_made w #[] 0 (Nat.le_refl _) (Nat.zero_le _) rfl
 have fin : ∀ (v' : Value) (w' : World), w'.ownsRow w.heap.size 3 1 v' (0 + n) ([] ++ zs.map (Value.int .i64)) → (w.alloc (.cells #[] 3)).grownBy w' (some w.heap.size) → w'.ownsRow w.heap.size 3 1 v' n (zs.map (Value.int .i64)) ∧ Ext w w' := fun v' w' h1 h2 =>
  ⟨by simpa using h1, Below.grown E1 h2 (by simp) (fun k hk => by cases hk; exact Nat.le_refl _)⟩
 have FIN := Lib.hid fin
 clear fin
 by_cases hz : n = 0
 · obtain ⟨a, cap, rfl⟩ := ha.form
   obtain rfl : zs = [] := List.eq_nil_of_length_eq_zero (by omega)
   subst hz
   clear ha hn
   cases a with
   | none =>
     go_enter Tryz.func32, Tryz.ntmps32
     go_wp2
     go_ret
     exact ⟨_, rfl, hown, E1⟩
   | some a =>
     go_enter Tryz.func32, Tryz.ntmps32
     go_wp2_with (at_builtin; refine wpList_append_own _ rfl _ _ 22 rfl w.heap.size 3 i0 (.int .i64 0) 1 8 Tryz.underlying22 hi hz0 hz1 hz2 rfl (by decide) _ 0 [] rfl hown a 0 cap [] rfl rfl (by simp) (by simp) (by decide) (by decide) (by simp) ?_; intro v' w' h1 h2 _)
     go_ret
     exact ⟨_, rfl, FIN.out _ _ h1 h2⟩
 · obtain ⟨g, off, cap, rfl, c1, c2⟩ := ha.addr (by omega)
   rw [← hn] at ha hl c1 ⊢
   have hnews := news_of_ints (ha.ext E1)
   have HN := Lib.hid hn
   have HW := Lib.hid hnews
   clear hn hnews
   go_enter Tryz.func32, Tryz.ntmps32
   go_wp2_with (at_builtin; refine wpList_append_own _ rfl _ _ 22 rfl w.heap.size 3 i0 (.int .i64 0) 1 8 Tryz.underlying22 hi hz0 hz1 hz2 rfl (by decide) _ 0 [] rfl hown ⟨g, off, none⟩ n cap (zs.map (Value.int .i64)) rfl (by simp [HN.out]) HW.out (ints_one zs) (by unfold maxLen; omega) (by omega) (by simp) ?_; intro v' w' h1 h2 _)
   go_ret
   exact ⟨_, rfl, FIN.out _ _ h1 h2⟩
def FrAt (w : World) (B : Nat) : Prop := (w.cell? ⟨B, 0, none⟩ = some (.int .i64 0) ∧ w.cell? ⟨B, 1, none⟩ = some (.int .i64 0) ∧ w.cell? ⟨B, 2, none⟩ = some (.slice none 0 0)) ∧ w.frozen? ⟨B, 0, none⟩ = false ∧ w.frozen? ⟨B, 1, none⟩ = false ∧ w.frozen? ⟨B, 2, none⟩ = false
theorem FrAt.new (w : World) : FrAt (w.alloc (.cells #[.int .i64 0, .int .i64 0, .slice none 0 0] 24)) w.heap.size := by
 refine ⟨⟨by simp, by simp, by simp⟩, by simp, by simp, by simp⟩
theorem FrAt.ext {w w' : World} {B : Nat} (h : FrAt w B) (k : Ext w w') : FrAt w' B := by
 obtain ⟨⟨h0, h1, h2⟩, f0, f1, f2⟩ := h
 have hB := Ext.lt h0
 exact ⟨⟨k.cell h0, k.cell h1, k.cell h2⟩, (k.frozen (Ext.lt h0)).trans f0, (Below.frozen k (Ext.lt h1)).trans f1, (Below.frozen k (Ext.lt h2)).trans f2⟩
set_option maxRecDepth 20000 in
set_option maxHeartbeats 1000000 in
theorem rmay_any (W H : Int) (zs : List Int) (a : Option Addr) (n cap : Nat) (w : World) (h : Ints w (.slice a n cap) zs) :
 Calls Tryz.prog 28 #[.agg #[.int .i64 W, .int .i64 H, .slice a n cap]] w fun e w' => e = .returned (.bool (decide (may W H zs))) ∧ Ext w w' := by
 have E1 : Ext w (w.alloc (.cells #[.int .i64 W, .int .i64 H, .slice a n cap] 24)) := (Ext.refl w).alloc _
 have HN := Lib.hid h.len
 cases hs : sideB W with
 | false =>
   have HR : Hid (decide (may W H zs) = false) := by show _ = _; simp [may, hs]
   go_enter Tryz.func28, Tryz.ntmps28
   go_wp2_with (go_at_call 58; refine (rside_any _ _).mono ?_; rintro e w' ⟨rfl, rfl⟩)
   go_ret
   exact ⟨by rw [HR.out]; rfl, E1⟩
 | true =>
   cases ht : sideB H with
   | false =>
     have HR : Hid (decide (may W H zs) = false) := by show _ = _; simp [may, ht]
     go_enter Tryz.func28, Tryz.ntmps28
     go_wp2_with (go_at_call 58; refine (rside_any _ _).mono ?_; rintro e w' ⟨rfl, rfl⟩)
     go_ret
     exact ⟨by rw [HR.out]; rfl, E1⟩
   | true =>
     obtain ⟨b1, b2⟩ := side_area hs ht
     by_cases hl : (n : Int) = W * H
     · have hl2 : ((n : Int) == W * H) = true := by simpa using hl
       have HW := Lib.hid (within_any zs 0 255)
       have HR : Hid (decide (may W H zs) = decide (within 0 255 zs)) := by
        show _ = _
        rw [decide_eq_decide]
        exact ⟨fun k => k.2.2.2, fun k => ⟨hs, ht, by rw [← HN.out]; exact hl, k⟩⟩
       clear hl
       cases hd : decide (within 0 255 zs) with
       | true =>
         rw [hd] at HR HW
         clear hd
         go_enter Tryz.func28, Tryz.ntmps28
         go_wp2_with (go_at_call 58; refine (rside_any _ _).mono ?_; rintro e w' ⟨rfl, rfl⟩)
         refine (HW.out _ _ (h.ext (by repeat (first | exact Ext.refl _ | assumption | refine Ext.alloc ?_ _ | refine Ext.drew ?_ | refine Ext.drewN ?_ _ | refine Ext.setCell ?_ (by first | exact Nat.le_refl _ | (simp; done) | omega) _ | refine Ext.trans ?_ (by assumption))))).mono ?_; rintro e w2 ⟨rfl, hx2⟩
         go_wp2
         go_ret
         exact ⟨by rw [HR.out]; rfl, (by repeat (first | exact Ext.refl _ | assumption | refine Ext.alloc ?_ _ | refine Ext.drew ?_ | refine Ext.drewN ?_ _ | refine Ext.setCell ?_ (by first | exact Nat.le_refl _ | (simp; done) | omega) _ | refine Ext.trans ?_ (by assumption)))⟩
       | false =>
         rw [hd] at HR HW
         clear hd
         go_enter Tryz.func28, Tryz.ntmps28
         go_wp2_with (go_at_call 58; refine (rside_any _ _).mono ?_; rintro e w' ⟨rfl, rfl⟩)
         refine (HW.out _ _ (h.ext (by repeat (first | exact Ext.refl _ | assumption | refine Ext.alloc ?_ _ | refine Ext.drew ?_ | refine Ext.drewN ?_ _ | refine Ext.setCell ?_ (by first | exact Nat.le_refl _ | (simp; done) | omega) _ | refine Ext.trans ?_ (by assumption))))).mono ?_; rintro e w2 ⟨rfl, hx2⟩
         go_wp2
         go_ret
         exact ⟨by rw [HR.out]; rfl, (by repeat (first | exact Ext.refl _ | assumption | refine Ext.alloc ?_ _ | refine Ext.drew ?_ | refine Ext.drewN ?_ _ | refine Ext.setCell ?_ (by first | exact Nat.le_refl _ | (simp; done) | omega) _ | refine Ext.trans ?_ (by assumption)))⟩
     · have HR : Hid (decide (may W H zs) = false) := by show _ = _; rw [decide_eq_false (fun hm => hl (by rw [HN.out]; exact hm.2.2.1))]
       have hl2 : ((n : Int) == W * H) = false := by simpa using hl
       clear hl
       go_enter Tryz.func28, Tryz.ntmps28
       go_wp2_with (go_at_call 58; refine (rside_any _ _).mono ?_; rintro e w' ⟨rfl, rfl⟩)
       go_ret
       exact ⟨by rw [HR.out]; rfl, E1⟩
theorem place_in {W H x y : Int} {n : Nat} (hW : W ≤ 32) (hH : H ≤ 32) (hn : (n : Int) = W * H) (hx : x < W) (hy : y < H) : 0 ≤ x → 0 ≤ y → 0 ≤ y * W ∧ y * W ≤ 100000 ∧ y * W + x < n := fun h1 h2 => by
 have a1 : 0 ≤ y * W := Int.mul_nonneg h2 (by omega)
 have a2 : (y + 1) * W ≤ H * W := Int.mul_le_mul_of_nonneg_right (by omega) (by omega)
 have a3 : H * W ≤ 32 * 32 := Int.mul_le_mul hH hW (by omega) (by omega)
 have a4 : (y + 1) * W = y * W + W := by rw [Int.add_mul, Int.one_mul]
 have a5 : W * H = H * W := Int.mul_comm _ _
 omega
def clampI (v n : Int) : Int := max 0 (min v (n - 1))
theorem clampI_in {v n : Int} (h : 1 ≤ n) : 0 ≤ clampI v n ∧ clampI v n < n := by unfold clampI; omega
def atV (W H : Int) (zs : List Int) (x y : Int) : Int := zs.getD (clampI y H * W + clampI x W).toNat 0
theorem at_place {W H : Int} {zs : List Int} (h : may W H zs) (x y : Int) : ∃ k : Nat, clampI y H * W + clampI x W = (k : Int) ∧ k < zs.length ∧ 0 ≤ clampI y H * W ∧ clampI y H * W ≤ 100000 ∧ (k : Int) ≤ 100000 ∧ 0 ≤ clampI x W ∧ clampI x W ≤ 31 := by
 have hW := sideB_true h.1
 have hH := sideB_true h.2.1
 have c1 := clampI_in (v := x) (n := W) (by omega)
 have c2 := clampI_in (v := y) (n := H) (by omega)
 obtain ⟨a1, a2, a3⟩ := place_in hW.2.1 hH.2.1 h.2.2.1 c1.2 c2.2 c1.1 c2.1
 have hml := may_len h
 exact ⟨(clampI y H * W + clampI x W).toNat, by omega, by omega, a1, a2, by omega, c1.1, by omega⟩
end Go.Proofs.YtcekpngkfldgkaaGreatDoor