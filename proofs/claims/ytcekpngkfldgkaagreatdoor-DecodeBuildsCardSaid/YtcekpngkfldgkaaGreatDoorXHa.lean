/- Contracts of this seat: DeM, DeA, DeB, DeC. -/
import Derived.Test.YtcekpngkfldgkaaGreatDoorXZs
import Derived.Test.YtcekpngkfldgkaaGreatDoorXGb
import Derived.Test.YtcekpngkfldgkaaGreatDoorXIEd2
import Derived.Test.YtcekpngkfldgkaaGreatDoorXGd
import Derived.Test.YtcekpngkfldgkaaGreatDoorXGe
import Derived.Test.YtcekpngkfldgkaaGreatDoorXGf
namespace Go.Proofs.YtcekpngkfldgkaaGreatDoor
set_option linter.unusedVariables false
set_option linter.unusedSimpArgs false
open Go.RowKit Go.Extern.Stop Go.Stop Go.Extern
def valL (l : List Int) (qp : Int) : List Int := rowL l.length fun i => l.getD i 0 * stepOf qp
def resV (l : List Int) (qp : Int) : List Int := invL (valL l qp)
def addL (p l : List Int) (qp : Int) : List Int := rowL p.length fun i => clipI (p.getD i 0 + (resV l qp).getD i 0)
def intL (W : Int) (zs : List Int) (x y : Int) (n : Nat) (m : Int) : List Int := prdL m (rowL n (topF W zs x y)) (rowL n (leftF W zs x y)) (placeF W zs (x - 1) (y - 1))
def putI (W : Int) (zs : List Int) (x y : Int) (n : Nat) (m : Int) (l : List Int) (qp : Int) : List Int := putRow W zs x y n (addL (intL W zs x y n m) l qp)
def movL (W H : Int) (ps : List Int) (x y vx vy : Int) : List Int := rowL 64 (mvF W H ps x y vx vy 8)
def bld4 (W : Int) (zs : List Int) (x y qp : Int) (q : Sq) : List Int := putI W (putI W (putI W (putI W zs x y 4 q.a q.s0 qp) (x + 4) y 4 q.b q.s1 qp) x (y + 4) 4 q.c q.s2 qp) (x + 4) (y + 4) 4 q.d q.s3 qp
def bld (W H : Int) (zs ps : List Int) (x y qp : Int) (q : Sq) : List Int :=
 if q.k = 0 then putRow W zs x y 8 (movL W H ps x y 0 0)
 else if q.k = 1 then putRow W zs x y 8 (addL (movL W H ps x y q.x q.y) q.L qp)
 else if q.k = 2 then putI W zs x y 8 q.m q.L qp
 else bld4 W zs x y qp q
theorem getD_out {l : List Int} {i : Nat} (h : ¬ i < l.length) : l.getD i 0 = 0 := by
 rw [List.getD_eq_getElem?_getD, List.getElem?_eq_none (by omega)]
 rfl
theorem nosmp_of {v : Int} (h : 0 ≤ v ∧ v ≤ 255) : nosmpB v = false := by
 unfold nosmpB
 simp
 omega
theorem lvE_okL {l : List Int} {n : Nat} (h : lvE l n = none) : l.length = n ∧ ∀ i, okL (l.getD i 0) := by
 obtain ⟨h1, h2⟩ := lvE_none h
 refine ⟨h1, fun i => ?_⟩
 unfold okL
 by_cases hi : i < l.length
 · have := List.any_eq_false.1 h2 _ (List.getElem_mem hi)
   have e : l.getD i 0 = l[i] := by simp [List.getD, List.getElem?_eq_getElem hi]
   rw [e]
   simp [noLv, isLv] at this
   omega
 · have e : l.getD i 0 = 0 := by simp [List.getD, List.getElem?_eq_none (Nat.le_of_not_lt hi)]
   rw [e]
   omega
theorem step_in {qp : Int} (h : okQ qp) : 1 ≤ stepOf qp ∧ stepOf qp ≤ 384 := by
 unfold okQ at h
 rcases (by omega : qp = 0 ∨ qp = 1 ∨ qp = 2 ∨ qp = 3 ∨ qp = 4 ∨ qp = 5 ∨ qp = 6 ∨ qp = 7 ∨ qp = 8 ∨ qp = 9 ∨ qp = 10 ∨ qp = 11 ∨ qp = 12 ∨ qp = 13 ∨ qp = 14 ∨ qp = 15) with rfl | rfl | rfl | rfl | rfl | rfl | rfl | rfl | rfl | rfl | rfl | rfl | rfl | rfl | rfl | rfl <;> decide
theorem mul_in {a s : Int} (h : -16320 ≤ a ∧ a ≤ 16320) (k : 1 ≤ s ∧ s ≤ 384) : -16777216 ≤ a * s ∧ a * s ≤ 16777216 := by
 have e1 : a * s ≤ 16320 * s := Int.mul_le_mul_of_nonneg_right h.2 (by omega)
 have e2 : -16320 * s ≤ a * s := Int.mul_le_mul_of_nonneg_right h.1 (by omega)
 omega
theorem val_in {l : List Int} {n : Nat} {qp : Int} (h : lvE l n = none) (hq : okQ qp) (i : Nat) : -16777216 ≤ (valL l qp).getD i 0 ∧ (valL l qp).getD i 0 ≤ 16777216 := by
 obtain ⟨h1, h2⟩ := lvE_okL h
 unfold valL
 by_cases hi : i < l.length
 · rw [getD_of_get (rowL_get hi)]
   have := h2 i
   unfold okL at this
   exact mul_in this (step_in hq)
 · rw [getD_out (by rw [rowL_length]; exact hi)]
   omega
theorem val_len (l : List Int) (qp : Int) : (valL l qp).length = l.length := rowL_length _ _
theorem val_ans {l : List Int} {n : Nat} {qp : Int} (h : lvE l n = none) (hq : okQ qp) : ansValue l qp = none := by
 obtain ⟨h1, h2⟩ := lvE_okL h
 unfold ansValue
 rw [if_pos ⟨hq, fun i _ => h2 i⟩]
theorem blk_ans {l : List Int} {n : Nat} {qp : Int} (hn : n = 16 ∨ n = 64) (h : lvE l n = none) (hq : okQ qp) : blkAns (valL l qp) 16777216 = none := by
 unfold blkAns
 have hl := (lvE_none h).1
 rw [if_pos (by rw [val_len, hl]; exact hn), if_pos (within_getD (fun k _ => val_in h hq k))]
theorem res_len (l : List Int) (qp : Int) : (resV l qp).length = l.length := by
 unfold resV invL
 rw [rowL_length, val_len]
theorem invF_in {M : Nat} {B : Int} {g : Nat → Int} (hB : B = 2 ^ M) (h1 : B ≤ 64) (hM : M = 4 ∨ M = 6) (hb : ∀ i, -16777216 ≤ g i ∧ g i ≤ 16777216) (i : Nat) : -67108865 ≤ invF M g i ∧ invF M g i ≤ 67108865 := by
 have := wht_small hB h1 hb i
 unfold invF
 rcases hM with rfl | rfl
 · have e : (2 : Int) ^ 4 = 16 := by decide
   rw [e]
   omega
 · have e : (2 : Int) ^ 6 = 64 := by decide
   rw [e]
   omega
theorem res_in {l : List Int} {n : Nat} {qp : Int} (hn : n = 16 ∨ n = 64) (h : lvE l n = none) (hq : okQ qp) (i : Nat) : -67108865 ≤ (resV l qp).getD i 0 ∧ (resV l qp).getD i 0 ≤ 67108865 := by
 have hl := (lvE_none h).1
 unfold resV invL
 by_cases hi : i < (valL l qp).length
 · rw [getD_of_get (rowL_get hi), val_len, hl]
   rcases hn with rfl | rfl
   · exact invF_in (M := 4) (B := 16) (by decide) (by decide) (.inl rfl) (fun i => val_in h hq i) i
   · exact invF_in (M := 6) (B := 64) (by decide) (by decide) (.inr rfl) (fun i => val_in h hq i) i
 · rw [getD_out (by rw [rowL_length]; exact hi)]
   omega
theorem add_len (p l : List Int) (qp : Int) : (addL p l qp).length = p.length := rowL_length _ _
theorem add_within (p l : List Int) (qp : Int) : within 0 255 (addL p l qp) := fun x hx => by
 obtain ⟨j, _, rfl⟩ := rowL_mem hx
 exact clipI_bd _
theorem mov_len (W H : Int) (ps : List Int) (x y vx vy : Int) : (movL W H ps x y vx vy).length = 64 := rowL_length _ _
theorem mov_within {W H : Int} {ps : List Int} (h : may W H ps) (x y vx vy : Int) : within 0 255 (movL W H ps x y vx vy) := fun a ha => by
 obtain ⟨j, _, rfl⟩ := rowL_mem ha
 exact halfV_in h _ _
theorem place_bd {W H : Int} {zs : List Int} (h : may W H zs) (x y : Int) : 0 ≤ placeF W zs x y ∧ placeF W zs x y ≤ 255 := by
 unfold placeF
 split
 · omega
 · exact may_getD h _
theorem edge_chk {W H : Int} {zs : List Int} (h : may W H zs) {n : Nat} (hn : n = 4 ∨ n = 8) (x y : Int) : chkAns (rowL n (topF W zs x y)) (rowL n (leftF W zs x y)) (placeF W zs (x - 1) (y - 1)) = none := by
 have a1 : (rowL n (topF W zs x y)).any nosmpB = false := any_no (fun j v _ hv => by
  obtain ⟨i, _, rfl⟩ := rowL_mem (List.mem_of_getElem? hv)
  exact nosmp_of (place_bd h _ _))
 have a2 : (rowL n (leftF W zs x y)).any nosmpB = false := any_no (fun j v _ hv => by
  obtain ⟨i, _, rfl⟩ := rowL_mem (List.mem_of_getElem? hv)
  exact nosmp_of (place_bd h _ _))
 have a3 : nosmpB (placeF W zs (x - 1) (y - 1)) = false := nosmp_of (place_bd h _ _)
 unfold chkAns
 rw [if_pos, if_neg]
 · simp [a1, a2, a3]
 · rw [rowL_length, rowL_length]
   refine ⟨?_, rfl⟩
   unfold sdB
   rcases hn with rfl | rfl <;> decide
theorem int_len {n : Nat} (W : Int) (zs : List Int) (x y : Int) (m : Int) : (intL W zs x y n m).length = n * n := by
 unfold intL
 rw [prdL_len, rowL_length]
theorem int_within {W H : Int} {zs : List Int} (h : may W H zs) {n : Nat} (hn : n = 4 ∨ n = 8) (x y m : Int) : within 0 255 (intL W zs x y n m) := prdL_within (edge_chk h hn x y)
theorem put_none {W H : Int} {zs : List Int} {x y : Int} {n : Nat} {bs : List Int} (h : may W H zs) (hl : lies W H x y n) (hb : bs.length = n * n) (hw : within 0 255 bs) : putAns W H zs x y n bs = none := by
 unfold putAns
 rw [if_pos h, if_pos hl, if_pos (by rw [hb]; push_cast; rfl), if_pos hw]
theorem puti_none {W H : Int} {zs : List Int} {x y qp m : Int} {n : Nat} {l : List Int} (h : may W H zs) (hn : n = 4 ∨ n = 8) (hl : lies W H x y n) : putAns W H zs x y n (addL (intL W zs x y n m) l qp) = none := put_none h hl (by rw [add_len, int_len]) (add_within _ _ _)
theorem puti_may {W H : Int} {zs : List Int} {x y qp m : Int} {n : Nat} {l : List Int} (h : may W H zs) (hn : n = 4 ∨ n = 8) (hl : lies W H x y n) : may W H (putI W zs x y n m l qp) := put_may (puti_none h hn hl)
theorem lies4 {W H x y : Int} (h : lies W H x y 8) : lies W H x y 4 ∧ lies W H (x + 4) y 4 ∧ lies W H x (y + 4) 4 ∧ lies W H (x + 4) (y + 4) 4 := by
 unfold lies at *
 omega
theorem bld_may {W H : Int} {zs ps : List Int} {x y qp : Int} {q : Sq} (h : may W H zs) (hl : lies W H x y 8) (hp : q.k < 2 → may W H ps) : may W H (bld W H zs ps x y qp q) := by
 unfold bld
 split
 · exact put_may (put_none (n := 8) h hl (mov_len _ _ _ _ _ _ _) (mov_within (hp (by omega)) _ _ _ _))
 · split
   · exact put_may (put_none (n := 8) h hl (by rw [add_len]; exact mov_len _ _ _ _ _ _ _) (add_within _ _ _))
   · split
     · exact puti_may h (.inr rfl) hl
     · obtain ⟨l0, l1, l2, l3⟩ := lies4 hl
       exact puti_may (puti_may (puti_may (puti_may h (.inl rfl) l0) (.inl rfl) l1) (.inl rfl) l2) (.inl rfl) l3
theorem step_copy_keep {P : Program} {ops : Array Oper} {o : Oper} {a : Act} {w : World} {K : Act → World → Prop} {Q : Exit → Act → World → Prop} {E : Prop} (hgd : o.guard = none) (d s : Operand) (dT sT : TypeId)
 (ho : o.op = .call { callee := .builtin .copy, args := #[d, s], argTypes := #[dT, sT] }) (elem : TypeId) (hu : P.underlying dT = some (.slice elem)) (hsz : (P.info? elem).map (·.size) = some 1)
 (dp sp : Option Addr) (dLen dCap sLen sCap : Nat) (hd : a.eval d = .slice dp dLen dCap) (hs : a.eval s = .slice sp sLen sCap)
 (g off : Nat) (cur : List Value) (t : TypeId) (hg : w.heap[g]? = some (.cells cur.toArray t (0, 0))) (cs : List Value) (hn : cs.length = Nat.min sLen dLen) (h0 : cs.length ≠ 0)
 (hpos : dp = some ⟨g, off, none⟩ ∧ ∃ ad, sp = some ad ∧ ∀ j v, cs[j]? = some v → w.cell? (ad.add j) = some v)
 (hfit : off + cs.length ≤ cur.length) (h1 : ∀ v ∈ cs, v.oneCell' = true)
 (h : ∀ w', RowKit.Hid (w'.heap[g]? = some (.cells (splice cur off cs).toArray t (0, 0))) → w.grownBy w' (some g) → K (a.put o.dst (goInt cs.length)) w') :
 if Region.wanted o (yielded ops a.tmps) = true then Oper.wp P o a w K Q else E := by
 have hw : Region.wanted o (yielded ops a.tmps) = true := by simp [Region.wanted, hgd]
 rw [if_pos hw]
 obtain ⟨rfl, ad, rfl, hsrc⟩ := hpos
 have hrun := run_copy_row (P := P) w dT sT o.type elem g off dLen dCap ad sLen sCap cur.toArray t cs hu hsz hg hn hsrc (by simpa using hfit) h1
 unfold Oper.wp
 simp [execOp, ho, resolve, invoke, builtin, hd, hs, hrun, Result.andThen]
 exact h _ (show _ = _ by simpa [splice] using setRow_heap w g _ _ t _ hg) (grownBy_setRow _ _ _)
set_option maxRecDepth 20000 in
set_option maxHeartbeats 4000000 in
theorem resadd_any (p l : List Int) (qp : Int) (N : Nat) (v u : Value) (w : World) (hN : N = 16 ∨ N = 64) (ha : Ints w v p) (hp : p.length = N) (hw : within 0 255 p) (hb : Ints w u l) (hl : lvE l N = none) (hq : okQ qp) :
 Calls Tryz.prog 94 #[v, u, .int .i64 qp] w fun e w' => ∃ o, e = .returned (.tuple #[o, .nilIface]) ∧ Ext w w' ∧ w'.ownsRow w.heap.size 3 1 o N ((addL p l qp).map (Value.int .i64)) := by
 have hll := (lvE_none hl).1
 have hN64 : N ≤ 64 := by omega
 have hN1 : 1 ≤ N := by omega
 have V1 := fun W h => Values_any l qp u W (by omega) h
 rw [val_ans hl hq] at V1
 have I1 := fun v W h => inverse_all (valL l qp) v W h
 rw [blk_ans hN hl hq] at I1
 have HV : Hid (∀ W, Ints W u l → Calls Tryz.prog 131 #[u, .int .i64 qp] W fun e w' => ∃ u, e = .returned (.tuple #[u, .nilIface]) ∧ Ext W w' ∧ Ints w' u (valL l qp)) := fun W h => (V1 W h).mono (by
  rintro e w' ⟨u, x, rfl, hx, h1, rfl⟩
  exact ⟨u, rfl, hx, h1⟩)
 have HI : Hid (∀ v W, Ints W v (valL l qp) → Calls Tryz.prog 132 #[v] W fun e w' => ∃ u, e = .returned (.tuple #[u, .nilIface]) ∧ Ext W w' ∧ w'.ownsRow W.heap.size 3 1 u N ((rowL N fun i => (resV l qp).getD i 0).map (Value.int .i64))) := fun v W h => (I1 v W h).mono (by
  rintro e w' ⟨u, x, rfl, hx, h1, rfl⟩
  refine ⟨u, rfl, hx, ?_⟩
  have h2 : w'.ownsRow W.heap.size 3 1 u (resV l qp).length ((resV l qp).map (Value.int .i64)) := h1
  rw [res_len, hll] at h2
  exact ownL_row (by rw [res_len, hll]) h2)
 have HR : Hid (∀ i, -67108865 ≤ (resV l qp).getD i 0 ∧ (resV l qp).getD i 0 ≤ 67108865) := fun i => res_in hN hl hq i
 have HP : Hid (∀ i, 0 ≤ p.getD i 0 ∧ p.getD i 0 ≤ 255) := fun i => by
  by_cases hi : i < p.length
  · exact getD_within hw hi
  · have e : p.getD i 0 = 0 := by simp [List.getD, List.getElem?_eq_none (Nat.le_of_not_lt hi)]
    rw [e]
    omega
 obtain ⟨a, cap, rfl⟩ := ha.form
 have HA : Hid (addL p l qp = rowL N fun i => clipI (p.getD i 0 + (resV l qp).getD i 0)) := by show _ = _; unfold addL; rw [hp]
 have HPL := Lib.hid hp
 rw [hp] at ha ⊢
 obtain ⟨g0, o0, rfl⟩ := ha.had (by omega)
 obtain ⟨R, hR⟩ : ∃ R, resV l qp = R := ⟨_, rfl⟩
 rw [hR] at HI HR HA
 have HRR := Lib.hid hR
 rw [HA.out]
 clear hR V1 I1 hl hq hw hll hN hp
 go_enter Tryz.func94, Tryz.ntmps94
 go_wp2_with fail
 refine (HV.out _ hb).mono ?_; rintro e w1 ⟨vv, rfl, hx1, hv1⟩
 go_wp2_with fail
 refine (HI.out _ _ hv1).mono ?_; rintro e w2 ⟨rr, rfl, hx2, ho⟩
 obtain ⟨g, cg, rfl, hg, hgl, hc1, hc2⟩ := own_form ho hN1
 have hE2 : Ext w w2 := hx1.trans hx2
 have hs1 := hx1.size
 have HO0 : Hid (w2.ownsRow w1.heap.size 3 1 (.slice (some ⟨g, 0, none⟩) N cg) N ((rowL N fun i => if i < 0 then clipI (p.getD i 0 + R.getD i 0) else R.getD i 0).map (Value.int .i64))) := by
  show World.ownsRow _ _ _ _ _ _ _
  have e : (rowL N fun i => if i < 0 then clipI (p.getD i 0 + R.getD i 0) else R.getD i 0) = rowL N fun i => R.getD i 0 := rowL_cg (fun j _ => by rw [if_neg (Nat.not_lt_zero _)])
  rw [e]
  exact ho
 clear ho hx1 hx2 hv1 HV HI HRR
 go_wp2_with fail
 go_loopw [32] (fun iv wr => ∃ k : Nat, k ≤ N ∧ iv = .int .i64 k ∧ Hid (wr.ownsRow w1.heap.size 3 1 (.slice (some ⟨g, 0, none⟩) N cg) N ((rowL N fun i => if i < k then clipI (p.getD i 0 + R.getD i 0) else R.getD i 0).map (Value.int .i64))) ∧ Ext w wr) (fun iv _ => N - (intOf iv).toNat)
 case atStart => exact ⟨0, Nat.zero_le _, rfl, HO0, hE2⟩
 case round =>
  clear HO0
  obtain ⟨k, hk, rfl, HO, hE⟩ := hrel
  by_cases hkN : k < N
  · obtain ⟨x, hx⟩ : ∃ x, p.getD k 0 = x := ⟨_, rfl⟩
    obtain ⟨y, hy⟩ : ∃ y, R.getD k 0 = y := ⟨_, rfl⟩
    have cx := hE.cell (ha.at (get_of_lt (by rw [HPL.out]; exact hkN)))
    rw [hx] at cx
    obtain ⟨ck, fk⟩ := own_cell HO.out hkN
    rw [if_neg (Nat.lt_irrefl _), hy] at ck
    have bx := HP.out k
    have by' := HR.out k
    rw [hx] at bx
    rw [hy] at by'
    obtain ⟨z, hz⟩ : ∃ z, clipI (x + y) = z := ⟨_, rfl⟩
    have HF := Lib.hid (fun W => clip_any (x + y) W)
    rw [hz] at HF
    have HZ : Hid (clipI (p.getD k 0 + R.getD k 0) = z) := by show _ = _; rw [hx, hy, hz]
    have e1 : IntKind.i64.wrap (x + y) = x + y := by rw [IntKind.wrap_i64]; omega
    clear hx hy hz bx by'
    go_wp2_with fail
    refine (HF.out _).mono ?_; rintro e w5 ⟨rfl, rfl⟩
    go_wp2
    go_roundw
    case rel =>
     refine ⟨k + 1, by omega, by go_num, ?_, hE.setCell (p := ⟨g, k, none⟩) (by show w.heap.size ≤ g; omega) _⟩
     show World.ownsRow _ _ _ _ _ _ _
     have h9 := own_set (x := z) HO.out hkN
     rw [rowL_cg (g := fun i => if i < k + 1 then clipI (p.getD i 0 + R.getD i 0) else R.getD i 0)] at h9
     · exact h9
     · intro i _
       by_cases hik : i = k
       · subst hik
         rw [if_pos rfl, if_pos (by omega), HZ.out]
       · rw [if_neg hik]
         by_cases h2 : i < k
         · rw [if_pos h2, if_pos (by omega)]
         · rw [if_neg h2, if_neg (by omega)]
    case measure => simp [intOf]; omega
  · obtain rfl : k = N := by omega
    have HO9 : Hid (wr.ownsRow w.heap.size 3 1 (.slice (some ⟨g, 0, none⟩) k cg) k ((rowL k fun i => clipI (p.getD i 0 + R.getD i 0)).map (Value.int .i64))) := by
     show World.ownsRow _ _ _ _ _ _ _
     have h9 := own_mono HO.out hs1
     rw [rowL_cg (g := fun i => clipI (p.getD i 0 + R.getD i 0)) (fun j hj => by rw [if_pos hj])] at h9
     exact h9
    go_wp2
    go_ret2
    exact ⟨_, rfl, hE, HO9.out⟩
set_option maxHeartbeats 8000000 in
set_option maxRecDepth 20000 in
theorem dput_any (Wn X Y N : Nat) (H : Int) (zs bs : List Int) (g n cap : Nat) (b : Option Addr) (m cb : Nat) (w : World) (F X' : Nat → Prop) (h : TlF w F (.slice (some ⟨g, 0, none⟩) n cap, zs)) (hb : HoF w X' (fun W => Ints W (.slice b m cb) bs)) (hd : ∀ k, X' k → ¬ F k) (hm : may (Wn : Int) H zs) (hN : 1 ≤ N ∧ N ≤ 8) (hX : X + N ≤ Wn) (hY : (Y : Int) + (N : Int) ≤ H) (hl : bs.length = N * N) :
 Calls Tryz.prog 61 #[.agg #[.int .i64 (Wn : Int), .int .i64 H, .slice (some ⟨g, 0, none⟩) n cap], .int .i64 (X : Int), .int .i64 (Y : Int), .int .i64 (N : Int), .slice b m cb] w
  (FPost TlF F w (.tuple #[]) (.slice (some ⟨g, 0, none⟩) n cap, rowL zs.length (putK Wn X Y N (N * N) (fun i => zs.getD i 0) (fun i => bs.getD i 0)))) := by
 obtain ⟨hN1, hN2⟩ := hN
 have hnl : n = zs.length := by
  obtain ⟨a', c', e⟩ := h.form
  simp only [Value.slice.injEq] at e
  exact e.2.1
 have hFg : F g := (h.2 g).2 rfl
 have ho : w.ownsRow 0 3 1 (.slice (some ⟨g, 0, none⟩) n cap) n (zs.map (Value.int .i64)) := by
  have h1 : w.ownsRow 0 3 1 (.slice (some ⟨g, 0, none⟩) n cap) zs.length (zs.map (Value.int .i64)) := h.1
  rwa [← hnl] at h1
 obtain ⟨cur0, hg0, hl0, ht0, -, hncg, hcg⟩ := own_cur ho
 have hgw : g < w.heap.size := (Array.getElem?_eq_some_iff.1 hg0).1
 have hmm := hb.get.len
 have b1 := sideB_true hm.1
 have b2 := sideB_true hm.2.1
 have hml := may_len hm
 have hzl := hm.2.2.1
 have hs := Nat.mul_le_mul hN2 hN2
 have hNN : N ≤ N * N := Nat.le_mul_of_pos_left N hN1
 have hm64 : m = N * N := by omega
 obtain ⟨gb, ob, rfl⟩ := hb.get.had (by omega)
 have hcb : m ≤ cb := hb.get.capq (by omega)
 have RB := Lib.hid (fun W (k : Kp g w W) => hb.2 W (fun i hi => k.block (hb.1 i hi) (fun e => hd i hi (e ▸ hFg))))
 have HFG := Lib.hid hFg
 have HFI : Hid (∀ k, F k ↔ k = g) := fun k => (h.2 k).trans ⟨fun e => (Option.some.inj e).symm, fun e => congrArg some e.symm⟩
 have HBL := Lib.hid hmm
 have HZL : Hid ((n : Int) = (Wn : Int) * H) := by show _ = _; rw [hnl]; exact hzl
 have HNL := Lib.hid hnl
 have HMN := Lib.hid hm64
 have hm2 : m ≤ 64 := by omega
 have hn2 : n ≤ 1024 := by omega
 have q1 : IntKind.i64.wrap ((Wn : Int) - (N : Int)) = (Wn : Int) - (N : Int) := by rw [IntKind.wrap_i64]; omega
 have FB0 : FrBox (w.alloc (.cells #[.int .i64 (Wn : Int), .int .i64 H, .slice (some ⟨g, 0, none⟩) n cap] 24)) w.heap.size (Wn : Int) H (.slice (some ⟨g, 0, none⟩) n cap) := FrBox.new w (Wn : Int) H (.slice (some ⟨g, 0, none⟩) n cap)
 have E0 : Ext w (w.alloc (.cells #[.int .i64 (Wn : Int), .int .i64 H, .slice (some ⟨g, 0, none⟩) n cap] 24)) := (Ext.refl w).alloc _
 have hgB : w.heap.size ≠ g := by omega
 have hg1 : (w.alloc (.cells #[.int .i64 (Wn : Int), .int .i64 H, .slice (some ⟨g, 0, none⟩) n cap] 24)).heap[g]? = some (.cells cur0.toArray 3 (0, 0)) := (E0.block hgw).trans hg0
 have HS0 : Hid (cur0.length = cap ∧ cur0.take n = (rowL n (putK Wn X Y N (0 * N) (fun i => zs.getD i 0) (fun i => bs.getD i 0))).map (Value.int .i64)) := by
  refine ⟨hl0, ?_⟩
  rw [ht0, Nat.zero_mul, hnl, rowL_cg (g := fun i => zs.getD i 0) (fun j _ => putK_zero Wn X Y N _ _ j), rowL_getD]
 clear hm hmm hnl hzl hl hml hs hm64 ho ht0 hl0 hg0 h hb hd hFg
 go_enter Tryz.func61, Tryz.ntmps61
 go_wp2_with fail
 revert FB0 E0 hg1
 generalize w.alloc (.cells #[.int .i64 (Wn : Int), .int .i64 H, .slice (some ⟨g, 0, none⟩) n cap] 24) = w0
 intro FB0 E0 hg1
 have HFB := Lib.hid FB0
 have HG0 := Lib.hid hg1
 clear FB0 hg1
 go_loopw [12] (fun jv wr => ∃ (j : Nat) (cur : List Value), j ≤ N ∧ jv = .int .i64 j ∧ Hid (wr.heap[g]? = some (.cells cur.toArray 3 (0, 0))) ∧ Hid (cur.length = cap ∧ cur.take n = (rowL n (putK Wn X Y N (j * N) (fun i => zs.getD i 0) (fun i => bs.getD i 0))).map (Value.int .i64)) ∧ Kp g w0 wr) (fun jv _ => N - (intOf jv).toNat)
 case atStart => exact ⟨0, cur0, Nat.zero_le _, rfl, HG0, HS0, Kp.refl _ _⟩
 case round =>
  clear HG0 HS0
  obtain ⟨j, cur, hj, rfl, HG, HC, hE⟩ := hrel
  obtain ⟨c0, c1, c2⟩ := HFB.out
  have p0 := hE.cell c0 hgB
  have p1 := hE.cell c1 hgB
  have p2 := hE.cell c2 hgB
  clear c0 c1 c2
  by_cases hjn : j < N
  · obtain ⟨a1, a2, a3⟩ := place_in (x := (X : Int) + ((N : Int) - 1)) (y := (Y : Int) + (j : Int)) b1.2.1 b2.2.1 HZL.out (by omega) (by omega) (by omega) (by omega)
    obtain ⟨Q, hQ⟩ : ∃ Q : Nat, Q = (Y + j) * Wn + X := ⟨_, rfl⟩
    have hQi : ((Y : Int) + (j : Int)) * (Wn : Int) + (X : Int) = (Q : Int) := by rw [hQ]; push_cast; rfl
    have hQn : Q + N ≤ n := by omega
    obtain ⟨L, hL⟩ : ∃ L : Nat, L = j * N := ⟨_, rfl⟩
    have hLi : (j : Int) * (N : Int) = (L : Int) := by rw [hL]; push_cast; rfl
    obtain ⟨U, hU⟩ : ∃ U : Nat, U = L + N := ⟨_, rfl⟩
    have hUi : ((j : Int) + 1) * (N : Int) = (U : Int) := by rw [hU, Int.add_mul, hLi, Int.one_mul]; push_cast; rfl
    have hUm : U ≤ m := by
     have := Nat.mul_le_mul_right N (show j + 1 ≤ N from hjn)
     rw [Nat.succ_mul] at this
     have := HMN.out
     omega
    have d1 : IntKind.i64.wrap ((Y : Int) + (j : Int)) = (Y : Int) + (j : Int) := by rw [IntKind.wrap_i64]; omega
    have d2 : IntKind.i64.wrap (((Y : Int) + (j : Int)) * (Wn : Int)) = ((Y : Int) + (j : Int)) * (Wn : Int) := by rw [IntKind.wrap_i64]; omega
    have d3 : IntKind.i64.wrap (((Y : Int) + (j : Int)) * (Wn : Int) + (X : Int)) = (Q : Int) := by rw [IntKind.wrap_i64]; omega
    have d4 : IntKind.i64.wrap ((j : Int) * (N : Int)) = (L : Int) := by rw [IntKind.wrap_i64]; omega
    have d5 : IntKind.i64.wrap ((j : Int) + 1) = (j : Int) + 1 := by rw [IntKind.wrap_i64]; omega
    have d6 : IntKind.i64.wrap (((j : Int) + 1) * (N : Int)) = (U : Int) := by rw [IntKind.wrap_i64]; omega
    have k1 : (0 : Int) ≤ (Q : Int) ∧ (Q : Int) ≤ (n : Int) := by omega
    have k2 : ¬ cap = Q := by omega
    have k3 : (Q : Int) ≤ (cap : Int) := by omega
    have k4 : ¬ cap - Q = 0 := by omega
    have k5 : (0 : Int) ≤ (L : Int) ∧ (L : Int) ≤ (U : Int) := by omega
    have k6 : (U : Int) ≤ (cb : Int) := by omega
    have k7 : ¬ cb = L := by omega
    have k8 : ¬ cb - L = 0 := by omega
    have HR := Lib.hid (read_row (f := fun t => bs.getD (L + t) 0) (N := N) (RB.out _ ((Kp.of_ext E0).trans hE)) (show L + N ≤ m by omega) (fun t _ => rfl))
    have HLC : Hid (((rowL N fun t => bs.getD (L + t) 0).map (Value.int .i64)).length = N) := by show _ = _; simp [rowL_length]
    have HLZ : Hid (((rowL N fun t => bs.getD (L + t) 0).map (Value.int .i64)).length ≠ 0) := by show _ ≠ _; rw [HLC.out]; omega
    have HFT : Hid (Q + ((rowL N fun t => bs.getD (L + t) 0).map (Value.int .i64)).length ≤ cur.length) := by show _ ≤ _; rw [HLC.out, HC.out.1]; omega
    have HMI : Hid (N = Nat.min (U - L) (n - Q)) := by show _ = _; rw [hU, Nat.add_sub_cancel_left]; exact (Nat.min_eq_left (by omega)).symm
    have HQ := Lib.hid hQ
    have HL := Lib.hid hL
    have hED := Lib.hid (hE.ext ((Ext.refl wr).drew))
    clear hQ hQi hL hLi hU hUi a1 a2 a3
    go_wp2
    go_region_law (refine step_copy_keep (by rfl) _ _ 22 22 (by rfl) 3 Tryz.underlying22 infoSz _ _ _ _ _ _ (by rfl) (by rfl) g Q _ 3 HG.out ((rowL N fun t => bs.getD (L + t) 0).map (Value.int .i64)) (by rw [HLC.out]; exact HMI.out) HLZ.out (⟨by first | rfl | (simp [Addr.add]; done) | (simp [Addr.add]; omega), _, rfl, HR.out⟩) HFT.out (ones_row _ _) ?_; intro w5 HG5 hE5; rw [HLC.out])
    all_goals
     have HK5 := Lib.hid (hED.out.trans hE5)
     clear hE5
     go_wp2
     go_roundw
     case rel =>
      have HN' : Hid ((splice cur Q ((rowL N fun t => bs.getD (L + t) 0).map (Value.int .i64))).length = cap ∧ (splice cur Q ((rowL N fun t => bs.getD (L + t) 0).map (Value.int .i64))).take n = (rowL n (putK Wn X Y N ((j + 1) * N) (fun i => zs.getD i 0) (fun i => bs.getD i 0))).map (Value.int .i64)) := by
       refine ⟨by rw [length_splice _ _ _ HFT.out]; exact HC.out.1, ?_⟩
       rw [take_splice (by rw [HLC.out]; omega) (by rw [HC.out.1]; omega), HC.out.2, HQ.out, HL.out]
       exact putK_splice hX hjn (by rw [← HQ.out]; exact hQn)
      first
       | exact ⟨j + 1, _, by omega, by go_num, HG5, HN', HK5.out⟩
       | (refine ⟨?_, ?_⟩; exact ⟨j + 1, _, by omega, by go_num, HG5, HN', HK5.out⟩; rfl)
       | ((repeat apply Exists.intro); exact ⟨⟨j + 1, _, by omega, by go_num, HG5, HN', HK5.out⟩, rfl⟩)
     case measure => simp [intOf]; omega
  · have hjN : j = N := by omega
    have HCN : Hid (cur.take n = (rowL n (putK Wn X Y N (N * N) (fun i => zs.getD i 0) (fun i => bs.getD i 0))).map (Value.int .i64)) := by
     have := HC.out.2
     rwa [hjN] at this
    have hown := Lib.hid (cur_own HG.out HC.out.1 HCN.out (Nat.zero_le _) hncg hcg)
    have hK := Lib.hid ((Kp.of_ext E0).trans hE)
    have hjn' : ¬ (j : Int) < (N : Int) := by omega
    clear hjN hjn HG HC HCN
    go_wp2
    go_end0
    refine ⟨rfl, F, ⟨?_, fun k => (HFI.out k).trans ⟨fun e => congrArg some e.symm, fun e => (Option.some.inj e).symm⟩⟩, Step.of_kp hK.out HFG.out⟩
    show World.ownsRow _ _ _ _ _ _ _
    dsimp only
    rw [rowL_length, ← HNL.out]
    exact hown.out
theorem putRow_nat (Wn X Y N : Nat) (zs bs : List Int) : putRow (Wn : Int) zs (X : Int) (Y : Int) (N : Int) bs = rowL zs.length (putK Wn X Y N (N * N) (fun i => zs.getD i 0) (fun i => bs.getD i 0)) := by
 unfold putRow
 simp only [Int.toNat_natCast]
theorem tlf_len {w : World} {F : Nat → Prop} {a : Option Addr} {n cap : Nat} {zs : List Int} (h : TlF w F (.slice a n cap, zs)) : n = zs.length := by
 obtain ⟨a', c', e⟩ := h.form
 simp only [Value.slice.injEq] at e
 exact e.2.1
theorem tlf_ints {w : World} {F : Nat → Prop} {v : Value} {zs : List Int} (h : TlF w F (v, zs)) (hl : zs.length ≤ 1000000) : Ints w v zs := Ints.of_owns h.1 (by omega)
theorem dput_4 (W H x y : Int) (zs bs : List Int) (g n cap : Nat) (v : Value) (w : World) (F X' : Nat → Prop) (h : TlF w F (.slice (some ⟨g, 0, none⟩) n cap, zs)) (hb : HoF w X' (fun W => Ints W v bs)) (hd : ∀ k, X' k → ¬ F k) (hm : may W H zs) (hl : lies W H x y 4) (hbl : bs.length = 16) :
 Calls Tryz.prog 61 #[.agg #[.int .i64 W, .int .i64 H, .slice (some ⟨g, 0, none⟩) n cap], .int .i64 x, .int .i64 y, .int .i64 4, v] w
  (FPost TlF F w (.tuple #[]) (.slice (some ⟨g, 0, none⟩) n cap, putRow W zs x y 4 bs)) := by
 obtain ⟨b, cb, rfl⟩ := hb.get.form
 obtain ⟨l1, l2, l3, l4, l5, l6⟩ := hl
 have hW := sideB_true hm.1
 obtain ⟨Wn, rfl⟩ : ∃ Wn : Nat, W = (Wn : Int) := ⟨W.toNat, by omega⟩
 obtain ⟨X, rfl⟩ : ∃ X : Nat, x = (X : Int) := ⟨x.toNat, by omega⟩
 obtain ⟨Y, rfl⟩ : ∃ Y : Nat, y = (Y : Int) := ⟨y.toNat, by omega⟩
 have e := putRow_nat Wn X Y 4 zs bs
 have e2 : putRow (Wn : Int) zs (X : Int) (Y : Int) 4 bs = rowL zs.length (putK Wn X Y 4 (4 * 4) (fun i => zs.getD i 0) (fun i => bs.getD i 0)) := e
 rw [e2]
 exact dput_any Wn X Y 4 H zs bs g n cap b bs.length cb w F X' h hb hd hm (by decide) (by omega) (by show (Y : Int) + (4 : Int) ≤ H; omega) (by rw [hbl])
set_option maxHeartbeats 2000000 in
set_option maxRecDepth 20000 in
theorem comb_4 (W H x y qp : Int) (zs p l : List Int) (g n cap : Nat) (v u : Value) (w : World) (F : Nat → Prop) (h : TlF w F (.slice (some ⟨g, 0, none⟩) n cap, zs)) (hm : may W H zs) (hl : lies W H x y 4) (hp : Ints w v p) (hpl : p.length = 16) (hpw : within 0 255 p) (hu : Ints w u l) (hv : lvE l 16 = none) (hq : okQ qp) :
 Calls Tryz.prog 63 #[.agg #[.int .i64 W, .int .i64 H, .slice (some ⟨g, 0, none⟩) n cap], .int .i64 x, .int .i64 y, .int .i64 4, .int .i64 qp, v, u] w
  (FPost TlF F w .nilIface (.slice (some ⟨g, 0, none⟩) n cap, putRow W zs x y 4 (addL p l qp))) := by
 have FB0 : FrBox (w.alloc (.cells #[.int .i64 W, .int .i64 H, .slice (some ⟨g, 0, none⟩) n cap] 24)) w.heap.size W H (.slice (some ⟨g, 0, none⟩) n cap) := FrBox.new w W H (.slice (some ⟨g, 0, none⟩) n cap)
 have E0 : Ext w (w.alloc (.cells #[.int .i64 W, .int .i64 H, .slice (some ⟨g, 0, none⟩) n cap] 24)) := (Ext.refl w).alloc _
 have HT := Lib.hid h
 have UA := Lib.hid (fun W' (k : Ext w W') => resadd_any p l qp 16 v u W' (by decide) (hp.ext k) hpl hpw (hu.ext k) hv hq)
 have UP := Lib.hid (fun W' v (k : Ext w W') (X' : Nat → Prop) (hb : HoF W' X' (fun W => Ints W v (addL p l qp))) (hx : ∀ k, X' k → w.heap.size ≤ k) => dput_4 W H x y zs (addL p l qp) g n cap v W' F X' (TlF.obj.ext h k) hb (fun i hi hf => by have := TlF.obj.lt h i hf; have := hx i hi; omega) hm hl (by rw [add_len, hpl]))
 have HAL : Hid ((addL p l qp).length = 16) := by show _ = _; rw [add_len, hpl]
 clear h hm hl hp hpl hpw hu hv hq
 go_enter Tryz.func63, Tryz.ntmps63
 go_wp2_with fail
 revert FB0 E0
 generalize w.alloc (.cells #[.int .i64 W, .int .i64 H, .slice (some ⟨g, 0, none⟩) n cap] 24) = w0
 intro FB0 E0
 refine (UA.out _ E0).mono ?_; rintro e w1 ⟨o, rfl, hx1, ho⟩
 have FB1 := FB0.ext hx1
 have E1 := Lib.hid (E0.trans hx1)
 have HS := Lib.hid E0.size
 have ho2 : w1.ownsRow w0.heap.size 3 1 o (addL p l qp).length ((addL p l qp).map (Value.int .i64)) := by rw [HAL.out]; exact ho
 have HO := Lib.hid (((HoF.row ho2).imp (fun W h => Ints.of_owns h (by rw [HAL.out]; decide))))
 have HB : Hid (∀ k, o.ownBlock = some k → w.heap.size ≤ k) := fun k hk => Nat.le_trans HS.out (ho2.lt k hk).1
 obtain ⟨oa, oc, rfl⟩ := HO.out.get.form
 obtain ⟨p0, p1, p2⟩ := FB1
 clear FB0 E0 hx1 ho ho2 UA
 go_wp2_with fail
 refine (UP.out _ _ E1.out _ HO.out HB.out).mono ?_; rintro e w2 ⟨rfl, F', hT, st⟩
 have HX := Lib.hid hT
 have HST := Lib.hid ((Step.of_ext (F := F) E1.out).trans st)
 clear hT st
 go_wp2
 go_ret
 exact ⟨rfl, F', HX.out, HST.out⟩
set_option maxHeartbeats 2000000 in
set_option maxRecDepth 20000 in
theorem bintra_4 (W H x y qp m : Int) (zs l : List Int) (g n cap : Nat) (u : Value) (w : World) (F : Nat → Prop) (h : TlF w F (.slice (some ⟨g, 0, none⟩) n cap, zs)) (hm : may W H zs) (hl : lies W H x y 4) (hmo : isM m = true) (hu : Ints w u l) (hv : lvE l 16 = none) (hq : okQ qp) :
 Calls Tryz.prog 64 #[.agg #[.int .i64 W, .int .i64 H, .slice (some ⟨g, 0, none⟩) n cap], .int .i64 x, .int .i64 y, .int .i64 4, .int .i64 qp, .int .i64 m, u] w
  (FPost TlF F w .nilIface (.slice (some ⟨g, 0, none⟩) n cap, putI W zs x y 4 m l qp)) := by
 have FB0 : FrBox (w.alloc (.cells #[.int .i64 W, .int .i64 H, .slice (some ⟨g, 0, none⟩) n cap] 24)) w.heap.size W H (.slice (some ⟨g, 0, none⟩) n cap) := FrBox.new w W H (.slice (some ⟨g, 0, none⟩) n cap)
 have E0 : Ext w (w.alloc (.cells #[.int .i64 W, .int .i64 H, .slice (some ⟨g, 0, none⟩) n cap] 24)) := (Ext.refl w).alloc _
 have hml := may_len hm
 have hI := tlf_ints h (by omega)
 have hc := edge_chk hm (n := 4) (by decide) x y
 have hm3 : 0 ≤ m ∧ m ≤ 3 := by simpa [isM] using hmo
 have hpa : prdAns m (rowL 4 (topF W zs x y)) (rowL 4 (leftF W zs x y)) (placeF W zs (x - 1) (y - 1)) = none := by unfold prdAns; rw [if_neg (by omega), hc]
 have hpv : prdV m (rowL 4 (topF W zs x y)) (rowL 4 (leftF W zs x y)) (placeF W zs (x - 1) (y - 1)) = intL W zs x y 4 m := by unfold prdV; rw [hpa]; rfl
 obtain ⟨l1, l2, l3, l4, l5, l6⟩ := id hl
 have UE := Lib.hid (fun W' (k : Ext w W') => edges_4 W H x y zs _ n cap W' (hI.ext k) hm ⟨l3, l4⟩ ⟨l5, l6⟩)
 have UQ := Lib.hid (fun W' v v' h h' => Predict_any m (rowL 4 (topF W zs x y)) (rowL 4 (leftF W zs x y)) (placeF W zs (x - 1) (y - 1)) v v' W' h h')
 rw [hpa, hpv] at UQ
 have UC := Lib.hid (fun W' v (k : Ext w W') (hp : Ints W' v (intL W zs x y 4 m)) => comb_4 W H x y qp zs (intL W zs x y 4 m) l g n cap v u W' F (TlF.obj.ext h k) hm hl hp (int_len W zs x y m) (int_within hm (by decide) x y m) (hu.ext k) hv hq)
 clear h hm hl hmo hu hv hq hI hc hpa hpv l1 l2 l3 l4 l5 l6 hml
 unfold putI
 go_enter Tryz.func64, Tryz.ntmps64
 go_wp2_with fail
 revert FB0 E0
 generalize w.alloc (.cells #[.int .i64 W, .int .i64 H, .slice (some ⟨g, 0, none⟩) n cap] 24) = w0
 intro FB0 E0
 refine (UE.out _ E0).mono ?_; rintro e w1 ⟨t, u', rfl, hx1, ht, hu'⟩
 have HT1 := Lib.hid ht
 have HU1 := Lib.hid hu'
 obtain ⟨ta, tc, rfl⟩ := ht.form
 obtain ⟨ua, uc, rfl⟩ := hu'.form
 have FB1 := Lib.hid (FB0.ext hx1)
 have E1 := Lib.hid (E0.trans hx1)
 clear FB0 E0 hx1 ht hu' UE
 go_wp2_with fail
 refine (UQ.out _ _ _ HT1.out HU1.out).mono ?_; rintro e w2 ⟨pv, px, rfl, hx2, hp2, hpx⟩
 obtain rfl : px = .nilIface := hpx
 have HP2 := Lib.hid hp2
 obtain ⟨pa, pc, rfl⟩ := hp2.form
 have E2 := Lib.hid (E1.out.trans hx2)
 obtain ⟨p0, p1, p2⟩ := FB1.out.ext hx2
 clear hp2 hx2 HT1 HU1 FB1 UQ E1
 go_wp2_with fail
 refine (UC.out _ _ E2.out HP2.out).mono ?_; rintro e w3 ⟨rfl, F', hT, st⟩
 have HX := Lib.hid hT
 have HST := Lib.hid ((Step.of_ext (F := F) E2.out).trans st)
 clear hT st
 go_wp2
 go_ret
 exact ⟨rfl, F', HX.out, HST.out⟩
theorem dput_8 (W H x y : Int) (zs bs : List Int) (g n cap : Nat) (v : Value) (w : World) (F X' : Nat → Prop) (h : TlF w F (.slice (some ⟨g, 0, none⟩) n cap, zs)) (hb : HoF w X' (fun W => Ints W v bs)) (hd : ∀ k, X' k → ¬ F k) (hm : may W H zs) (hl : lies W H x y 8) (hbl : bs.length = 64) :
 Calls Tryz.prog 61 #[.agg #[.int .i64 W, .int .i64 H, .slice (some ⟨g, 0, none⟩) n cap], .int .i64 x, .int .i64 y, .int .i64 8, v] w
  (FPost TlF F w (.tuple #[]) (.slice (some ⟨g, 0, none⟩) n cap, putRow W zs x y 8 bs)) := by
 obtain ⟨b, cb, rfl⟩ := hb.get.form
 obtain ⟨l1, l2, l3, l4, l5, l6⟩ := hl
 have hW := sideB_true hm.1
 obtain ⟨Wn, rfl⟩ : ∃ Wn : Nat, W = (Wn : Int) := ⟨W.toNat, by omega⟩
 obtain ⟨X, rfl⟩ : ∃ X : Nat, x = (X : Int) := ⟨x.toNat, by omega⟩
 obtain ⟨Y, rfl⟩ : ∃ Y : Nat, y = (Y : Int) := ⟨y.toNat, by omega⟩
 have e := putRow_nat Wn X Y 8 zs bs
 have e2 : putRow (Wn : Int) zs (X : Int) (Y : Int) 8 bs = rowL zs.length (putK Wn X Y 8 (8 * 8) (fun i => zs.getD i 0) (fun i => bs.getD i 0)) := e
 rw [e2]
 exact dput_any Wn X Y 8 H zs bs g n cap b bs.length cb w F X' h hb hd hm (by decide) (by omega) (by show (Y : Int) + (8 : Int) ≤ H; omega) (by rw [hbl])
set_option maxHeartbeats 2000000 in
set_option maxRecDepth 20000 in
theorem comb_8 (W H x y qp : Int) (zs p l : List Int) (g n cap : Nat) (v u : Value) (w : World) (F : Nat → Prop) (h : TlF w F (.slice (some ⟨g, 0, none⟩) n cap, zs)) (hm : may W H zs) (hl : lies W H x y 8) (hp : Ints w v p) (hpl : p.length = 64) (hpw : within 0 255 p) (hu : Ints w u l) (hv : lvE l 64 = none) (hq : okQ qp) :
 Calls Tryz.prog 63 #[.agg #[.int .i64 W, .int .i64 H, .slice (some ⟨g, 0, none⟩) n cap], .int .i64 x, .int .i64 y, .int .i64 8, .int .i64 qp, v, u] w
  (FPost TlF F w .nilIface (.slice (some ⟨g, 0, none⟩) n cap, putRow W zs x y 8 (addL p l qp))) := by
 have FB0 : FrBox (w.alloc (.cells #[.int .i64 W, .int .i64 H, .slice (some ⟨g, 0, none⟩) n cap] 24)) w.heap.size W H (.slice (some ⟨g, 0, none⟩) n cap) := FrBox.new w W H (.slice (some ⟨g, 0, none⟩) n cap)
 have E0 : Ext w (w.alloc (.cells #[.int .i64 W, .int .i64 H, .slice (some ⟨g, 0, none⟩) n cap] 24)) := (Ext.refl w).alloc _
 have HT := Lib.hid h
 have UA := Lib.hid (fun W' (k : Ext w W') => resadd_any p l qp 64 v u W' (by decide) (hp.ext k) hpl hpw (hu.ext k) hv hq)
 have UP := Lib.hid (fun W' v (k : Ext w W') (X' : Nat → Prop) (hb : HoF W' X' (fun W => Ints W v (addL p l qp))) (hx : ∀ k, X' k → w.heap.size ≤ k) => dput_8 W H x y zs (addL p l qp) g n cap v W' F X' (TlF.obj.ext h k) hb (fun i hi hf => by have := TlF.obj.lt h i hf; have := hx i hi; omega) hm hl (by rw [add_len, hpl]))
 have HAL : Hid ((addL p l qp).length = 64) := by show _ = _; rw [add_len, hpl]
 clear h hm hl hp hpl hpw hu hv hq
 go_enter Tryz.func63, Tryz.ntmps63
 go_wp2_with fail
 revert FB0 E0
 generalize w.alloc (.cells #[.int .i64 W, .int .i64 H, .slice (some ⟨g, 0, none⟩) n cap] 24) = w0
 intro FB0 E0
 refine (UA.out _ E0).mono ?_; rintro e w1 ⟨o, rfl, hx1, ho⟩
 have FB1 := FB0.ext hx1
 have E1 := Lib.hid (E0.trans hx1)
 have HS := Lib.hid E0.size
 have ho2 : w1.ownsRow w0.heap.size 3 1 o (addL p l qp).length ((addL p l qp).map (Value.int .i64)) := by rw [HAL.out]; exact ho
 have HO := Lib.hid (((HoF.row ho2).imp (fun W h => Ints.of_owns h (by rw [HAL.out]; decide))))
 have HB : Hid (∀ k, o.ownBlock = some k → w.heap.size ≤ k) := fun k hk => Nat.le_trans HS.out (ho2.lt k hk).1
 obtain ⟨oa, oc, rfl⟩ := HO.out.get.form
 obtain ⟨p0, p1, p2⟩ := FB1
 clear FB0 E0 hx1 ho ho2 UA
 go_wp2_with fail
 refine (UP.out _ _ E1.out _ HO.out HB.out).mono ?_; rintro e w2 ⟨rfl, F', hT, st⟩
 have HX := Lib.hid hT
 have HST := Lib.hid ((Step.of_ext (F := F) E1.out).trans st)
 clear hT st
 go_wp2
 go_ret
 exact ⟨rfl, F', HX.out, HST.out⟩
set_option maxHeartbeats 2000000 in
set_option maxRecDepth 20000 in
theorem bintra_8 (W H x y qp m : Int) (zs l : List Int) (g n cap : Nat) (u : Value) (w : World) (F : Nat → Prop) (h : TlF w F (.slice (some ⟨g, 0, none⟩) n cap, zs)) (hm : may W H zs) (hl : lies W H x y 8) (hmo : isM m = true) (hu : Ints w u l) (hv : lvE l 64 = none) (hq : okQ qp) :
 Calls Tryz.prog 64 #[.agg #[.int .i64 W, .int .i64 H, .slice (some ⟨g, 0, none⟩) n cap], .int .i64 x, .int .i64 y, .int .i64 8, .int .i64 qp, .int .i64 m, u] w
  (FPost TlF F w .nilIface (.slice (some ⟨g, 0, none⟩) n cap, putI W zs x y 8 m l qp)) := by
 have FB0 : FrBox (w.alloc (.cells #[.int .i64 W, .int .i64 H, .slice (some ⟨g, 0, none⟩) n cap] 24)) w.heap.size W H (.slice (some ⟨g, 0, none⟩) n cap) := FrBox.new w W H (.slice (some ⟨g, 0, none⟩) n cap)
 have E0 : Ext w (w.alloc (.cells #[.int .i64 W, .int .i64 H, .slice (some ⟨g, 0, none⟩) n cap] 24)) := (Ext.refl w).alloc _
 have hml := may_len hm
 have hI := tlf_ints h (by omega)
 have hc := edge_chk hm (n := 8) (by decide) x y
 have hm3 : 0 ≤ m ∧ m ≤ 3 := by simpa [isM] using hmo
 have hpa : prdAns m (rowL 8 (topF W zs x y)) (rowL 8 (leftF W zs x y)) (placeF W zs (x - 1) (y - 1)) = none := by unfold prdAns; rw [if_neg (by omega), hc]
 have hpv : prdV m (rowL 8 (topF W zs x y)) (rowL 8 (leftF W zs x y)) (placeF W zs (x - 1) (y - 1)) = intL W zs x y 8 m := by unfold prdV; rw [hpa]; rfl
 obtain ⟨l1, l2, l3, l4, l5, l6⟩ := id hl
 have UE := Lib.hid (fun W' (k : Ext w W') => edges_8 W H x y zs _ n cap W' (hI.ext k) hm ⟨l3, l4⟩ ⟨l5, l6⟩)
 have UQ := Lib.hid (fun W' v v' h h' => Predict_any m (rowL 8 (topF W zs x y)) (rowL 8 (leftF W zs x y)) (placeF W zs (x - 1) (y - 1)) v v' W' h h')
 rw [hpa, hpv] at UQ
 have UC := Lib.hid (fun W' v (k : Ext w W') (hp : Ints W' v (intL W zs x y 8 m)) => comb_8 W H x y qp zs (intL W zs x y 8 m) l g n cap v u W' F (TlF.obj.ext h k) hm hl hp (int_len W zs x y m) (int_within hm (by decide) x y m) (hu.ext k) hv hq)
 clear h hm hl hmo hu hv hq hI hc hpa hpv l1 l2 l3 l4 l5 l6 hml
 unfold putI
 go_enter Tryz.func64, Tryz.ntmps64
 go_wp2_with fail
 revert FB0 E0
 generalize w.alloc (.cells #[.int .i64 W, .int .i64 H, .slice (some ⟨g, 0, none⟩) n cap] 24) = w0
 intro FB0 E0
 refine (UE.out _ E0).mono ?_; rintro e w1 ⟨t, u', rfl, hx1, ht, hu'⟩
 have HT1 := Lib.hid ht
 have HU1 := Lib.hid hu'
 obtain ⟨ta, tc, rfl⟩ := ht.form
 obtain ⟨ua, uc, rfl⟩ := hu'.form
 have FB1 := Lib.hid (FB0.ext hx1)
 have E1 := Lib.hid (E0.trans hx1)
 clear FB0 E0 hx1 ht hu' UE
 go_wp2_with fail
 refine (UQ.out _ _ _ HT1.out HU1.out).mono ?_; rintro e w2 ⟨pv, px, rfl, hx2, hp2, hpx⟩
 obtain rfl : px = .nilIface := hpx
 have HP2 := Lib.hid hp2
 obtain ⟨pa, pc, rfl⟩ := hp2.form
 have E2 := Lib.hid (E1.out.trans hx2)
 obtain ⟨p0, p1, p2⟩ := FB1.out.ext hx2
 clear hp2 hx2 HT1 HU1 FB1 UQ E1
 go_wp2_with fail
 refine (UC.out _ _ E2.out HP2.out).mono ?_; rintro e w3 ⟨rfl, F', hT, st⟩
 have HX := Lib.hid hT
 have HST := Lib.hid ((Step.of_ext (F := F) E2.out).trans st)
 clear hT st
 go_wp2
 go_ret
 exact ⟨rfl, F', HX.out, HST.out⟩
end Go.Proofs.YtcekpngkfldgkaaGreatDoor