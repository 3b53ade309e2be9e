/- Contracts of this seat: Lg7, Lg8, Lg9, LgA, LgS. -/
import Derived.Test.YtmphochnmdmioaaDoorZj
import Derived.Test.YtmphochnmdmioaaDoorZd
import Derived.Test.YtmphochnmdmioaaDoorZe
/- kinref26.Pack: its contract over this seat's translation. -/
namespace Go.Proofs.YtmphochnmdmioaaDoor
set_option linter.unusedVariables false
set_option linter.unusedSimpArgs false
open Go.RowKit Go.Extern.Stop Go.Stop Go.Extern

theorem Bys.box {w : World} {b i : Nat} {cs : Array Value} {T : TypeId} {v : Value} {bs : List Nat} (h : Bys w v bs) (hb : BoxIs w b cs T) (hc : ∀ (j : Nat) (x : Nat), cs[j]? ≠ some (.int .u8 (x : Int))) (u : Value) : Bys (w.setCell ⟨b, i, none⟩ u) v bs := by
  obtain ⟨⟨a, cap, e, h1, h2, h3, h4⟩, h5, h6⟩ := h
  refine ⟨⟨a, cap, e, h1, h2, h3, fun g off ha j x hx => ?_⟩, h5, h6⟩
  have c := h4 g off ha j x hx
  obtain ⟨y, -, rfl⟩ := Option.map_eq_some_iff.1 (by rw [List.getElem?_map] at hx; exact hx)
  have hg : g ≠ b := by
    rintro rfl
    unfold BoxIs at hb
    simp only [World.cell?, hb] at c
    exact hc _ y (by simpa using c)
  exact (World.cell?_setCell_other w _ _ u (fun h => hg (congrArg Addr.block h).symm)).trans c
theorem res_no_u8 (c : Int) (a : Value) (ha : ∀ x : Nat, a ≠ .int .u8 (x : Int)) : ∀ (j : Nat) (x : Nat), (#[.int .i64 c, a] : Array Value)[j]? ≠ some (.int .u8 (x : Int)) := by
  intro j x h
  rcases j with _ | _ | j
  · simp at h
  · simp at h; exact ha x h
  · simp at h
theorem slc_no_u8 (a : Option Addr) (n c : Nat) : ∀ x : Nat, Value.slice a n c ≠ .int .u8 (x : Int) := fun x h => by cases h
theorem rdata_any (r : Rc) (w : World) (h : MayR r) : Calls Tryd.prog 32 #[rcA r] w (RdaPost w (datR r)) := by
  obtain ⟨k, s, n, l, c⟩ := r
  obtain ⟨⟨h1, h2⟩, ⟨h3, h4⟩, ⟨h5, h6⟩, ⟨h7, h8⟩, h9, h10⟩ := okF_may h
  simp only at h1 h2 h3 h4 h5 h6 h7 h8 h9 h10
  obtain ⟨s, rfl⟩ := Int.eq_ofNat_of_zero_le h3
  obtain ⟨n, rfl⟩ := Int.eq_ofNat_of_zero_le h7
  obtain ⟨l, rfl⟩ := Int.eq_ofNat_of_zero_le h5
  obtain ⟨c, rfl⟩ := Int.eq_ofNat_of_zero_le h9
  have hk : k = 48 ∨ k = 49 ∨ k = 50 ∨ k = 51 := by omega
  rcases hk with rfl | rfl | rfl | rfl
  · exact rdata48 s n l c w (by omega) (by omega) (by omega) (by omega)
  · exact rdata49 s n l c w (by omega) (by omega) (by omega) (by omega)
  · exact rdata50 s n l c w (by omega) (by omega) (by omega) (by omega)
  · exact rdata51 s n l c w (by omega) (by omega) (by omega) (by omega)
set_option maxHeartbeats 4000000 in
set_option maxRecDepth 20000 in
theorem rpack_any (r : Rc) (w : World) : Calls Tryd.prog 11 #[rcA r] w (RMPost w (pkR r) (pkE r)) := by
  obtain ⟨k, s, n, l, c⟩ := r
  have HR0 := Lib.hid (RcAt.new w ⟨k, s, n, l, c⟩ 38)
  have HE0 := Lib.hid (((Ext.refl w).alloc (.cells #[.int .i64 k, .int .i64 s, .int .i64 n, .int .i64 l, .int .i64 c] 38)).alloc (.cells #[.int .i64 0, .slice none 0 0] 35))
  have HR1 := Lib.hid (HR0.out.ext ((Ext.refl _).alloc (.cells #[.int .i64 0, .slice none 0 0] 35)))
  have HB1 := Lib.hid (BoxIs.newAt (w.alloc (.cells #[.int .i64 k, .int .i64 s, .int .i64 n, .int .i64 l, .int .i64 c] 38)) (w.heap.size + 1) (by simp) #[.int .i64 0, .slice none 0 0] 35)
  by_cases hk : kndR k
  · have HKN := Lib.hid (fun w => rkind_yes k w hk)
    have HM := Lib.hid (fun w => rlmay_any ⟨k, s, n, l, c⟩ w)
    by_cases hm : MayR ⟨k, s, n, l, c⟩
    · have HF : Hid (pkE ⟨k, s, n, l, c⟩ = none) := pkE_none.2 hm
      obtain ⟨hu1, hu2⟩ := uk_pk hm
      have UF := Lib.hid (fun w => rdata_any ⟨k, s, n, l, c⟩ w hm)
      have HD9 : Hid ((datR ⟨k, s, n, l, c⟩).length ≤ 9) := by show _ ≤ _; rw [dat_len]; exact lenR_le _
      rw [decide_eq_true hm] at HM
      obtain ⟨D, hD⟩ : ∃ D, datR ⟨k, s, n, l, c⟩ = D := ⟨_, rfl⟩
      rw [hD] at hu1 hu2 UF HD9
      have HU1 : Hid (ukF k D.length = none) := hu1
      have HU2 : Hid (ukV k D = pkR ⟨k, s, n, l, c⟩) := hu2
      clear hm hk hu1 hu2 hD
      go_enter Tryd.func11, Tryd.ntmps11
      go_wp2_with (first | (go_at_call 30; refine (HKN.out _).mono ?_; rintro e w9 ⟨rfl, rfl⟩) | (go_at_call 16; refine (HM.out _).mono ?_; rintro e w1 ⟨rfl, hx1⟩; have HX1 := Lib.hid (HE0.out.trans hx1); have HR2 := Lib.hid (HR1.out.ext hx1); have HB2 := Lib.hid (HB1.out.ext hx1); clear hx1))
      obtain ⟨q0, q1, q2, q3, q4⟩ := HR2.out
      have UQ := Lib.hid (UF.out w1.drew)
      go_wp2_with fail
      go_region_law (first
        | (go_simp; go_at_call 32; (with_reducible refine UQ.out.mono ?_); rintro e w2 ⟨u2, rfl, h1, h0, h2⟩; obtain ⟨a2, c2, rfl⟩ := h1.form; have HX2 := Lib.hid (HX1.out.drew.trans h2); have HB3 := Lib.hid (HB2.out.ext ((Ext.refl w1).drew.trans h2)); obtain ⟨r0, r1, r2, r3, r4⟩ := HR2.out.ext ((Ext.refl w1).drew.trans h2); have UM := Lib.hid (rmake_any k D _ w2 h1 h0 (by have := HD9.out; omega)); clear h1 h2 h0)
        | (go_simp; go_at_call 31; (with_reducible refine UM.out.mono ?_); rintro e w3 ⟨u3, c3, x3, rfl, h1, h2, h3⟩; rw [HU1.out] at h2; have h2' : c3 = 0 ∧ x3 = .slice none 0 0 := h2; obtain ⟨rfl, rfl⟩ := h2'; have HY3 := Lib.hid h1; have HX3 := Lib.hid (HX2.out.trans h3); have HB4 := Lib.hid (HB3.out.ext h3); obtain ⟨⟨r5, r6⟩, s5, s6⟩ := HB4.out.two; clear h1 h2 h3))
      all_goals go_wp2
      all_goals have HG1 := Lib.hid (HB4.out.set2 (.int .i64 0) (.slice none 0 0))
      all_goals have HG2 := Lib.hid ((HX3.out.setCell (p := ⟨w.heap.size + 1, 0, none⟩) (Nat.le_succ _) (.int .i64 0)).setCell (p := ⟨w.heap.size + 1, 1, none⟩) (Nat.le_succ _) (.slice none 0 0))
      all_goals have HY4 := Lib.hid ((HY3.out.box HB4.out (i := 0) (res_no_u8 0 _ (slc_no_u8 none 0 0)) (.int .i64 0)).box (HB4.out.set 0 (.int .i64 0)) (i := 1) (res_no_u8 0 _ (slc_no_u8 none 0 0)) (.slice none 0 0))
      all_goals obtain ⟨⟨y5, y6⟩, -⟩ := HG1.out.two
      all_goals exact bodyPost_ret (v := .tuple #[u3, .agg #[.int .i64 0, .slice none 0 0]]) (by simp [results, Tryd.results11, go_sem, y5, y6]) rfl ⟨u3, 0, .slice none 0 0, rfl, by rw [← HU2.out]; exact HY4.out, by rw [HF.out]; exact RErrIs.zero, HG2.out⟩
    · have HF : Hid (pkE ⟨k, s, n, l, c⟩ = some ([], 3)) := by show _ = _; unfold pkE; rw [if_neg (Decidable.not_not.2 hk), if_pos hm]
      have HV : Hid (pkR ⟨k, s, n, l, c⟩ = []) := by show _ = _; unfold pkR; rw [if_neg hm]
      rw [decide_eq_false hm] at HM
      obtain ⟨C, hC⟩ : ∃ C : Int, C = 3 := ⟨_, rfl⟩
      have hC0 : Hid (C ≠ 0) := by show _ ≠ _; omega
      rw [← hC] at HF
      have e3 : (3 : Int) = C := hC.symm
      clear hm hk hC
      go_enter Tryd.func11, Tryd.ntmps11
      rw [e3]
      clear e3
      go_wp2_with (first | (go_at_call 30; refine (HKN.out _).mono ?_; rintro e w9 ⟨rfl, rfl⟩) | (go_at_call 16; refine (HM.out _).mono ?_; rintro e w1 ⟨rfl, hx1⟩; have HX0 := Lib.hid (HE0.out.trans hx1); have HB2 := Lib.hid (HB1.out.ext hx1); clear hx1))
      refine (fail_any _ _).mono ?_; rintro e w2 ⟨rfl, hx2⟩
      have HX1 := Lib.hid (HX0.out.trans hx2)
      have HC1 := Lib.hid (HB2.out.ext hx2)
      obtain ⟨⟨r5, r6⟩, s5, s6⟩ := HC1.out.two
      have HG1 := Lib.hid (HC1.out.set2 (.int .i64 C) (.slice none 0 0))
      have HG2 := Lib.hid ((HX1.out.setCell (p := ⟨w.heap.size + 1, 0, none⟩) (Nat.le_succ _) (.int .i64 C)).setCell (p := ⟨w.heap.size + 1, 1, none⟩) (Nat.le_succ _) (.slice none 0 0))
      go_wp2_with fail
      obtain ⟨⟨y5, y6⟩, -⟩ := HG1.out.two
      exact bodyPost_ret (v := .tuple #[.slice none 0 0, .agg #[.int .i64 C, .slice none 0 0]]) (by simp [results, Tryd.results11, go_sem, y5, y6]) rfl ⟨.slice none 0 0, C, .slice none 0 0, rfl, by rw [HV.out]; exact Bys.nil _, by rw [HF.out]; exact RErrIs.code hC0.out, HG2.out⟩
  · have HKN := Lib.hid (fun w => rkind_no k w hk)
    have HF : Hid (pkE ⟨k, s, n, l, c⟩ = some ([], 13)) := by show _ = _; unfold pkE; rw [if_pos hk]
    have HV : Hid (pkR ⟨k, s, n, l, c⟩ = []) := by show _ = _; unfold pkR; rw [if_neg (fun h => hk (may_knd h))]
    obtain ⟨C, hC⟩ : ∃ C : Int, C = 13 := ⟨_, rfl⟩
    have hC0 : Hid (C ≠ 0) := by show _ ≠ _; omega
    rw [← hC] at HF
    have e13 : (13 : Int) = C := hC.symm
    clear hk hC
    go_enter Tryd.func11, Tryd.ntmps11
    rw [e13]
    clear e13
    go_wp2_with (first | (go_at_call 30; refine (HKN.out _).mono ?_; rintro e w9 ⟨rfl, rfl⟩))
    refine (fail_any _ _).mono ?_; rintro e w2 ⟨rfl, hx2⟩
    have HX1 := Lib.hid (HE0.out.trans hx2)
    have HC1 := Lib.hid (HB1.out.ext hx2)
    obtain ⟨⟨r5, r6⟩, s5, s6⟩ := HC1.out.two
    have HG1 := Lib.hid (HC1.out.set2 (.int .i64 C) (.slice none 0 0))
    have HG2 := Lib.hid ((HX1.out.setCell (p := ⟨w.heap.size + 1, 0, none⟩) (Nat.le_succ _) (.int .i64 C)).setCell (p := ⟨w.heap.size + 1, 1, none⟩) (Nat.le_succ _) (.slice none 0 0))
    go_wp2_with fail
    obtain ⟨⟨y5, y6⟩, -⟩ := HG1.out.two
    exact bodyPost_ret (v := .tuple #[.slice none 0 0, .agg #[.int .i64 C, .slice none 0 0]]) (by simp [results, Tryd.results11, go_sem, y5, y6]) rfl ⟨.slice none 0 0, C, .slice none 0 0, rfl, by rw [HV.out]; exact Bys.nil _, by rw [HF.out]; exact RErrIs.code hC0.out, HG2.out⟩
end Go.Proofs.YtmphochnmdmioaaDoor

/- Lists of records of the call's own; log.Scan: contracts over this seat's translation. -/
namespace Go.Proofs.YtmphochnmdmioaaDoor
set_option linter.unusedVariables false
set_option linter.unusedSimpArgs false
open Go.RowKit Go.Extern.Stop Go.Stop Go.Extern

def rcC (r : Rc) : List Value := [.int .i64 r.k, .int .i64 r.s, .int .i64 r.n, .int .i64 r.l, .int .i64 r.c]
def rcs (l : List Rc) : List Value := l.flatMap rcC
theorem rcs_len (l : List Rc) : (rcs l).length = l.length * 5 := by
  induction l with
  | nil => rfl
  | cons r t ih => unfold rcs at ih ⊢; rw [List.flatMap_cons, List.length_append, ih, List.length_cons]; show 5 + _ = _; omega
theorem rcs_snoc (l : List Rc) (r : Rc) : rcs (l ++ [r]) = rcs l ++ rcC r := by
  unfold rcs
  rw [List.flatMap_append]
  simp
theorem rcs_take {l : List Rc} {k : Nat} {r : Rc} (h : l[k]? = some r) : rcs (l.take (k + 1)) = rcs (l.take k) ++ rcC r := by
  rw [List.take_add_one, h]
  exact rcs_snoc _ _
theorem rcs_get {l : List Rc} {k : Nat} {r : Rc} (h : l[k]? = some r) : ∀ j x, (rcC r)[j]? = some x → (rcs l)[k * 5 + j]? = some x := by
  induction l generalizing k with
  | nil => simp at h
  | cons a t ih =>
    intro j x hj
    have hj5 : j < 5 := (List.getElem?_eq_some_iff.1 hj).1
    show (rcC a ++ rcs t)[k * 5 + j]? = some x
    cases k with
    | zero =>
      have e : a = r := by simpa using h
      subst e
      rw [List.getElem?_append_left (by show 0 * 5 + j < 5; omega), Nat.zero_mul, Nat.zero_add]
      exact hj
    | succ k =>
      rw [List.getElem?_append_right (by show 5 ≤ _; omega), show (k + 1) * 5 + j - (rcC a).length = k * 5 + j by show (k + 1) * 5 + j - 5 = _; omega]
      exact ih (by simpa using h) j x hj
theorem rcC_one (r : Rc) : ∀ x ∈ rcC r, x.oneCell' = true := by
  intro x hx
  simp only [rcC, List.mem_cons, List.not_mem_nil, or_false] at hx
  rcases hx with rfl | rfl | rfl | rfl | rfl <;> rfl
theorem infoRc : (Tryd.prog.info? 24).map (fun i => (i.zero, i.size, i.bytes)) = some (some (.agg #[.int .i64 0, .int .i64 0, .int .i64 0, .int .i64 0, .int .i64 0]), 5, 40) := by kernel_rfl
theorem push_rc {ops : Array Oper} {rest : List Oper} {o : Oper} {a : Act} {Q : Exit → Act → World → Prop} {Wd : World} {base : Nat} (hgd : o.guard = none) (s y : Operand) (t : TypeId)
    (ho : o.op = .call { callee := .builtin .append, args := #[s, y], argTypes := #[t, t] }) (ht : Tryd.prog.underlying t = some (.slice 24))
    (v : Value) (n : Nat) (xs : List Value) (r : Rc) (hs : a.eval s = v) (hown : Wd.ownsRow base 24 5 v n xs) (hx : a.eval y = .slice (some ⟨Wd.heap.size, 0, none⟩) 1 1) (hb : base ≤ Wd.heap.size) (hn : n ≤ 1000000)
    (h : ∀ g cap w', w'.ownsRow base 24 5 (.slice (some ⟨g, 0, none⟩) (n + 1) cap) (n + 1) (xs ++ rcC r) → Wd.grownBy w' v.ownBlock → wpList Tryd.prog ops Q rest (a.put o.dst (.slice (some ⟨g, 0, none⟩) (n + 1) cap)) w') :
    wpList Tryd.prog ops Q (o :: rest) a (Wd.alloc (.cells #[.int .i64 r.k, .int .i64 r.s, .int .i64 r.n, .int .i64 r.l, .int .i64 r.c] 24)) := by
  obtain ⟨i0, hi, hz0, hz1, hz2⟩ := info_parts infoRc
  refine wpList_append_own_at _ hgd s y t ho base 24 i0 _ 5 40 ht hi hz0 hz1 hz2 rfl (by decide) v n xs hs (hown.alloc _) ⟨Wd.heap.size, 0, none⟩ 1 1 (rcC r) hx rfl (World.news_of_block (cs := #[.int .i64 r.k, .int .i64 r.s, .int .i64 r.n, .int .i64 r.l, .int .i64 r.c]) (t := 24) (fr := (0, 0)) (heap_alloc_new Wd _)) (rcC_one r) (by unfold maxLen; omega) (by omega) (by simp; omega) ?_
  intro v' w' h1 h2 h3 h4
  have hg : Wd.grownBy w' v.ownBlock := ⟨h2.os, h2.tape, h2.output, Nat.le_trans (by simp) h2.size, fun k hk hne => (h2.block k (by simp; omega) hne).trans (Below.heap_alloc Wd _ k hk)⟩
  obtain ⟨g, cap, rfl⟩ : ∃ g cap, v' = .slice (some ⟨g, 0, none⟩) (n + 1) cap := by
    rcases h1.2 with ⟨-, h0⟩ | ⟨g, cap, cur, e, -⟩
    · omega
    · exact ⟨g, cap, e⟩
  exact h g cap w' h1 hg
theorem infoRr : (Tryd.prog.info? 38).map (fun i => (i.zero, i.size, i.bytes)) = some (some (.agg #[.int .i64 0, .int .i64 0, .int .i64 0, .int .i64 0, .int .i64 0]), 5, 40) := by kernel_rfl
theorem push_rr {ops : Array Oper} {rest : List Oper} {o : Oper} {a : Act} {Q : Exit → Act → World → Prop} {Wd : World} {base : Nat} (hgd : o.guard = none) (s y : Operand) (t : TypeId)
    (ho : o.op = .call { callee := .builtin .append, args := #[s, y], argTypes := #[t, t] }) (ht : Tryd.prog.underlying t = some (.slice 38))
    (v : Value) (n : Nat) (xs : List Value) (r : Rc) (hs : a.eval s = v) (hown : Wd.ownsRow base 38 5 v n xs) (hx : a.eval y = .slice (some ⟨Wd.heap.size, 0, none⟩) 1 1) (hb : base ≤ Wd.heap.size) (hn : n ≤ 1000000)
    (h : ∀ g cap w', w'.ownsRow base 38 5 (.slice (some ⟨g, 0, none⟩) (n + 1) cap) (n + 1) (xs ++ rcC r) → Wd.grownBy w' v.ownBlock → wpList Tryd.prog ops Q rest (a.put o.dst (.slice (some ⟨g, 0, none⟩) (n + 1) cap)) w') :
    wpList Tryd.prog ops Q (o :: rest) a (Wd.alloc (.cells #[.int .i64 r.k, .int .i64 r.s, .int .i64 r.n, .int .i64 r.l, .int .i64 r.c] 38)) := by
  obtain ⟨i0, hi, hz0, hz1, hz2⟩ := info_parts infoRr
  refine wpList_append_own_at _ hgd s y t ho base 38 i0 _ 5 40 ht hi hz0 hz1 hz2 rfl (by decide) v n xs hs (hown.alloc _) ⟨Wd.heap.size, 0, none⟩ 1 1 (rcC r) hx rfl (World.news_of_block (cs := #[.int .i64 r.k, .int .i64 r.s, .int .i64 r.n, .int .i64 r.l, .int .i64 r.c]) (t := 38) (fr := (0, 0)) (heap_alloc_new Wd _)) (rcC_one r) (by unfold maxLen; omega) (by omega) (by simp; omega) ?_
  intro v' w' h1 h2 h3 h4
  have hg : Wd.grownBy w' v.ownBlock := ⟨h2.os, h2.tape, h2.output, Nat.le_trans (by simp) h2.size, fun k hk hne => (h2.block k (by simp; omega) hne).trans (Below.heap_alloc Wd _ k hk)⟩
  obtain ⟨g, cap, rfl⟩ : ∃ g cap, v' = .slice (some ⟨g, 0, none⟩) (n + 1) cap := by
    rcases h1.2 with ⟨-, h0⟩ | ⟨g, cap, cur, e, -⟩
    · omega
    · exact ⟨g, cap, e⟩
  exact h g cap w' h1 hg
def ScPost (w : World) (R : List Rc × Nat) (e : Ending) (w' : World) : Prop := ∃ u, e = .returned (.tuple #[u, .int .i64 (R.2 : Int)]) ∧ w'.ownsRow w.heap.size 24 5 u R.1.length (rcs R.1) ∧ Ext w w'
def RScPost (w : World) (R : List Rc × Nat) (e : Ending) (w' : World) : Prop := ∃ u, e = .returned (.tuple #[u, .int .i64 (R.2 : Int)]) ∧ w'.ownsRow w.heap.size 38 5 u R.1.length (rcs R.1) ∧ Ext w w'
theorem sc_count (bs : List Nat) : ∀ (f i : Nat), bs.length - i < f → i ≤ bs.length → (scR bs i).1.length + i ≤ (scR bs i).2 ∧ (scR bs i).2 ≤ bs.length
  | 0, _, h, _ => absurd h (Nat.not_lt_zero _)
  | f + 1, i, h, hi => by
    by_cases h0 : i < bs.length
    · rcases sc_step bs i h0 with ⟨K, D, E, -, ⟨h1, h2, -⟩, -, ⟨r, -, -, e⟩ | ⟨c, -, -, e⟩⟩ | ⟨C, -, -, e⟩
      · have := sc_count bs f (i + E) (by omega) (by omega)
        rw [e]
        show (scR bs (i + E)).1.length + 1 + i ≤ (scR bs (i + E)).2 ∧ _
        exact ⟨by omega, this.2⟩
      · rw [e]; exact ⟨by show 0 + i ≤ i; omega, hi⟩
      · rw [e]; exact ⟨by show 0 + i ≤ i; omega, hi⟩
    · rw [sc_done (by omega)]
      exact ⟨by show 0 + i ≤ i; omega, hi⟩
theorem drop_nilR {L : List Rc} {k : Nat} (h : L.drop k = []) (hk : k ≤ L.length) : k = L.length := by
  have := congrArg List.length h
  rw [List.length_drop] at this
  simp at this
  omega
theorem drop_consR {L t : List Rc} {k : Nat} {r : Rc} (h : L.drop k = r :: t) : L[k]? = some r ∧ L.drop (k + 1) = t ∧ k < L.length := by
  have hk : k < L.length := by
    have := congrArg List.length h
    rw [List.length_drop, List.length_cons] at this
    omega
  rw [List.drop_eq_getElem_cons hk] at h
  obtain ⟨h1, h2⟩ := List.cons.inj h
  exact ⟨by rw [List.getElem?_eq_getElem hk, h1], h2, hk⟩
set_option maxHeartbeats 4000000 in
set_option maxRecDepth 20000 in
theorem scan_any (bs : List Nat) (v : Value) (w : World) (hnb : NbIs w) (h : Bys w v bs) (hl : bs.length ≤ 1000000) : Calls Tryd.prog 19 #[v] w (ScPost w (scR bs 0)) := by
  obtain ⟨a, cap, rfl⟩ := h.form
  obtain ⟨n, hn⟩ : ∃ n, bs.length = n := ⟨_, rfl⟩
  have hc0 := sc_count bs (bs.length + 1) 0 (by omega) (Nat.zero_le _)
  rw [hn] at h hl hc0 ⊢
  obtain ⟨⟨L, E⟩, hR⟩ : ∃ R, scR bs 0 = R := ⟨_, rfl⟩
  rw [hR] at hc0 ⊢
  have hLE : L.length ≤ n := by have : L.length + 0 ≤ E ∧ E ≤ n := hc0; omega
  have HB := Lib.hid h
  have HN := Lib.hid hn
  have HDB := Lib.hid h.2.1
  have HNB := Lib.hid hnb
  have H0 : Hid (scR bs 0 = (L.drop 0, E)) := hR
  clear h hn hnb hR hc0
  go_enter Tryd.func19, Tryd.ntmps19
  go_wp2_with fail
  go_loopw [4, 5] (fun ov iv wr => ∃ (k p : Nat), (k ≤ L.length ∧ p ≤ n) ∧ iv = .int .i64 (p : Int) ∧ Hid (scR bs p = (L.drop k, E)) ∧ Hid (wr.ownsRow w.heap.size 24 5 ov k (rcs (L.take k))) ∧ Hid (Ext w wr)) (fun _ iv _ => n - (intOf iv).toNat)
  case atStart => exact ⟨0, 0, ⟨Nat.zero_le _, Nat.zero_le _⟩, rfl, H0, World.ownsRow_nil _ _ _ _, Ext.refl w⟩
  case round =>
    obtain ⟨k, p, ⟨hk, hp⟩, rfl, HP, HO, HE⟩ := hrel
    have UP := next_any bs (p : Int) (.slice a n cap) wr (HNB.out.ext HE.out) (HB.out.ext HE.out)
    have hcase : (∃ (K : Nat) (D : List Nat) (M : Nat), nxU bs (p : Int) = (none, K, D, (p : Int), (M : Int) + (p : Int)) ∧ (0 < M ∧ p + M ≤ bs.length ∧ D.length ≤ 65536) ∧ (∀ x ∈ D, x ∈ bs) ∧ ((∃ r, prR (K : Int) D = (none, r) ∧ MayR r ∧ scR bs p = (r :: (scR bs (p + M)).1, (scR bs (p + M)).2)) ∨ (∃ c, prR (K : Int) D = (some ([], c), zR) ∧ c ≠ 0 ∧ scR bs p = ([], p)))) ∨ (∃ q C, nxU bs (p : Int) = (some (q, C), 0, [], 0, 0) ∧ scR bs p = ([], p)) := by
      by_cases hlt : p < n
      · rcases sc_step bs p (by rw [HN.out]; exact hlt) with h | ⟨C, -, e1, e2⟩
        · exact .inl h
        · exact .inr ⟨_, _, e1, e2⟩
      · refine .inr ⟨[], 7, ?_, sc_done (by rw [HN.out]; omega)⟩
        unfold nxU
        rw [if_pos (.inr (by rw [HN.out]; omega))]
    rcases hcase with ⟨K, D, M, e1, ⟨e2, e3, e4⟩, e5, e6⟩ | ⟨q, C, e1, e3⟩
    · rw [e1] at UP
      have UQ := Lib.hid UP
      have HD : Hid (∀ x ∈ D, x < 256) := fun x hx => HDB.out x (e5 x hx)
      rw [HN.out] at e3
      have HDL := Lib.hid e4
      have HPR : Hid ((∃ r, prR (K : Int) D = (none, r) ∧ MayR r ∧ scR bs p = (r :: (scR bs (p + M)).1, (scR bs (p + M)).2)) ∨ (∃ c, prR (K : Int) D = (some ([], c), zR) ∧ c ≠ 0 ∧ scR bs p = ([], p))) := e6
      clear e1 e5 UP e6
      go_wp2_with fail
      refine (UQ.out).mono ?_; rintro e w5 ⟨u, z, rfl, ho, hz, hx5⟩
      obtain rfl : z = .nilIface := hz
      have ho : w5.ownsRow wr.heap.size 5 1 u D.length (byC D) := ho
      obtain ⟨ua, uc, rfl⟩ := uform ho
      have E6 : Ext w5 (w5.alloc (.cells #[.int .i64 (K : Int), .slice ua D.length uc, .int .i64 (p : Int), .int .i64 ((M : Int) + (p : Int))] 27)) := (Ext.refl w5).alloc _
      have HE6 := Lib.hid ((HE.out.trans hx5).trans E6)
      have HO6 := Lib.hid (ownsRow_ext (ownsRow_ext HO.out hx5) E6)
      have HY6 := Lib.hid ((Bys.of_owns ho HD.out (by have := HDL.out; omega)).ext E6)
      have hne : Hid (some w5.heap.size ≠ u4.ownBlock) := fun e => by have := (HO.out.lt _ e.symm).2; have := hx5.size; omega
      have HU6 := Lib.hid (UBox.new w5 (K : Int) (.slice ua D.length uc) (p : Int) ((M : Int) + (p : Int)) 27)
      clear HO HE ho hx5 E6 UQ
      go_wp2_with fail
      revert HE6 HO6 HY6 HU6 hne
      generalize hw6 : World.alloc w5 _ = w6
      generalize w5.heap.size = U
      intro HE6 HO6 HY6 hne HU6
      clear hw6
      obtain ⟨⟨y0, y1, y2, y3⟩, -⟩ := HU6.out
      go_wp2_with fail
      refine (parse_any (K : Int) (p : Int) ((M : Int) + (p : Int)) D _ _ HY6.out).mono ?_; rintro e w7 ⟨z7, rfl, hz7, hx7⟩
      have HE7 := Lib.hid (HE6.out.trans hx7)
      have HO7 := Lib.hid (ownsRow_ext HO6.out hx7)
      have HU7 := Lib.hid (HU6.out.ext hx7)
      clear HE6 HO6 HY6 HU6 y0 y1 y2 y3
      rcases HPR.out with ⟨r, e7, e8, e9⟩ | ⟨c, e7, e8, e9⟩
      · rw [e7] at hz7 ⊢
        obtain rfl : z7 = .nilIface := hz7
        rw [HP.out] at e9
        obtain ⟨f1, f2⟩ := Prod.mk.inj e9
        obtain ⟨g1, g2, g3⟩ := drop_consR f1
        have HP2 : Hid (scR bs (p + M) = (L.drop (k + 1), E)) := by show _ = _; rw [f2, g2]
        have HTK := Lib.hid (rcs_take g1)
        have hB7 : w.heap.size ≤ w7.heap.size := HE7.out.size
        obtain ⟨⟨y0, y1, y2, y3⟩, -⟩ := HU7.out
        have HU8 := Lib.hid (HU7.out.ext ((Ext.refl w7).alloc (.cells #[.int .i64 r.k, .int .i64 r.s, .int .i64 r.n, .int .i64 r.l, .int .i64 r.c] 24)))
        have HO8 := Lib.hid (HO7.out.alloc (.cells #[.int .i64 r.k, .int .i64 r.s, .int .i64 r.n, .int .i64 r.l, .int .i64 r.c] 24))
        have HE8 := Lib.hid (HE7.out.alloc (.cells #[.int .i64 r.k, .int .i64 r.s, .int .i64 r.n, .int .i64 r.l, .int .i64 r.c] 24))
        have hB8 := HE8.out.size
        clear e7 e8 e9 f1 f2 g1 g2 hx7
        have HC8 := Lib.hid HU8.out.1.2.2.2
        go_wp2_with (at_builtin; refine push_rc rfl _ _ 49 rfl Tryd.underlying49 _ k _ r rfl HO8.out (by show Value.slice (some ⟨_, 0, none⟩) 1 1 = _; simp) hB8 (by omega) ?_; intro g9 c9 w9 h1 h2; have HO9 : Hid (w9.ownsRow w.heap.size 24 5 (.slice (some ⟨g9, 0, none⟩) (k + 1) c9) (k + 1) (rcs (L.take (k + 1)))) := (by show World.ownsRow _ _ _ _ _ _ _; rw [HTK.out]; exact h1); have HE9 := Lib.hid (Below.grown HE8.out h2 HE8.out.size (fun q hq => (HO8.out.lt q hq).1)); have c9 : w9.cell? ⟨U, 3, none⟩ = some (.int .i64 ((M : Int) + (p : Int))) := (World.cell?_of_block (h2.block U (Ext.lt HC8.out) hne.out)).trans HC8.out; clear h1 h2)
        go_roundw
        case rel =>
          refine ⟨k + 1, p + M, ⟨by omega, e3⟩, ?_, HP2, HO9, HE9⟩
          rw [Int.add_comm, Int.natCast_add]
        case measure => simp [intOf]; omega
      · rw [e7] at hz7 ⊢
        have hz7 : ErrIs w7 (some ([], c)) z7 := hz7
        obtain ⟨tz, qz, rfl⟩ := hz7.ne
        have e3 := HP.out.symm.trans e9
        obtain ⟨f1, f2⟩ := Prod.mk.inj e3
        obtain rfl := drop_nilR f1 hk
        subst f2
        have HO8 := HO7.out
        rw [List.take_of_length_le (Nat.le_refl _)] at HO8
        have HO9 := Lib.hid (ownsRow_ext HO8 ((Ext.refl w7).alloc (.cells #[.int .i64 0, .int .i64 0, .int .i64 0, .int .i64 0, .int .i64 0] 24)))
        have HE9 := Lib.hid (HE7.out.alloc (.cells #[.int .i64 0, .int .i64 0, .int .i64 0, .int .i64 0, .int .i64 0] 24))
        clear HO7 HO8 HE7 HU7 hne f1 e7 e8 e9 e3 hx7 hz7
        go_wp2
        go_ret2
        exact ⟨_, rfl, HO9.out, HE9.out⟩
    · rw [e1] at UP
      have UQ := Lib.hid UP
      have e3 := HP.out.symm.trans e3
      obtain ⟨f1, f2⟩ := Prod.mk.inj e3
      obtain rfl := drop_nilR f1 hk
      subst f2
      have HO8 := HO.out
      rw [List.take_of_length_le (Nat.le_refl _)] at HO8
      have HO := Lib.hid HO8
      clear HO8 e1 e3 f1 UP
      go_wp2_with fail
      refine (UQ.out).mono ?_; rintro e w5 ⟨u, z, rfl, ho, hz, hx5⟩
      have hz : ErrIs w5 (some (q, C)) z := hz
      obtain ⟨tz, qz, rfl⟩ := hz.ne
      have ho : w5.ownsRow wr.heap.size 5 1 u 0 (byC []) := ho
      obtain ⟨ua, uc, rfl⟩ := uform ho
      have HO9 := Lib.hid (ownsRow_ext HO.out (hx5.alloc (.cells #[.int .i64 0, .slice ua 0 uc, .int .i64 0, .int .i64 0] 27)))
      have HE9 := Lib.hid (HE.out.trans (hx5.alloc (.cells #[.int .i64 0, .slice ua 0 uc, .int .i64 0, .int .i64 0] 27)))
      clear HO HE ho hx5 hz UQ
      go_wp2
      go_ret2
      exact ⟨_, rfl, HO9.out, HE9.out⟩
end Go.Proofs.YtmphochnmdmioaaDoor

/- kinref26.Scan: its contract over this seat's translation. -/
namespace Go.Proofs.YtmphochnmdmioaaDoor
set_option linter.unusedVariables false
set_option linter.unusedSimpArgs false
open Go.RowKit Go.Extern.Stop Go.Stop Go.Extern

set_option maxHeartbeats 4000000 in
set_option maxRecDepth 20000 in
theorem rscan_any (bs : List Nat) (v : Value) (w : World) (h : Bys w v bs) (hl : bs.length ≤ 1000000) : Calls Tryd.prog 20 #[v] w (RScPost w (scR bs 0)) := by
  obtain ⟨a, cap, rfl⟩ := h.form
  obtain ⟨n, hn⟩ : ∃ n, bs.length = n := ⟨_, rfl⟩
  have hc0 := sc_count bs (bs.length + 1) 0 (by omega) (Nat.zero_le _)
  rw [hn] at h hl hc0 ⊢
  obtain ⟨⟨L, E⟩, hR⟩ : ∃ R, scR bs 0 = R := ⟨_, rfl⟩
  rw [hR] at hc0 ⊢
  have hLE : L.length ≤ n := by have : L.length + 0 ≤ E ∧ E ≤ n := hc0; omega
  have HB := Lib.hid h
  have HN := Lib.hid hn
  have HDB := Lib.hid h.2.1
  have H0 : Hid (scR bs 0 = (L.drop 0, E)) := hR
  clear h hn hR hc0
  go_enter Tryd.func20, Tryd.ntmps20
  go_wp2_with fail
  go_loopw [4, 5] (fun ov iv wr => ∃ (k p : Nat), (k ≤ L.length ∧ p ≤ n) ∧ iv = .int .i64 (p : Int) ∧ Hid (scR bs p = (L.drop k, E)) ∧ Hid (wr.ownsRow w.heap.size 38 5 ov k (rcs (L.take k))) ∧ Hid (Ext w wr)) (fun _ iv _ => n - (intOf iv).toNat)
  case atStart => exact ⟨0, 0, ⟨Nat.zero_le _, Nat.zero_le _⟩, rfl, H0, World.ownsRow_nil _ _ _ _, Ext.refl w⟩
  case round =>
    obtain ⟨k, p, ⟨hk, hp⟩, rfl, HP, HO, HE⟩ := hrel
    by_cases hlt : p < n
    · have UP := rnext_own bs (p : Int) (.slice a n cap) wr (HB.out.ext HE.out)
      rcases sc_step bs p (by rw [HN.out]; exact hlt) with ⟨K, D, M, e1, ⟨e2, e3, e4⟩, e5, e6⟩ | ⟨C, e1, e2, e3⟩
      · rw [e1] at UP
        have UQ := Lib.hid UP
        have HD : Hid (∀ x ∈ D, x < 256) := fun x hx => HDB.out x (e5 x hx)
        rw [HN.out] at e3
        have HDL := Lib.hid e4
        have HPR : Hid ((∃ r, prR (K : Int) D = (none, r) ∧ MayR r ∧ scR bs p = (r :: (scR bs (p + M)).1, (scR bs (p + M)).2)) ∨ (∃ c, prR (K : Int) D = (some ([], c), zR) ∧ c ≠ 0 ∧ scR bs p = ([], p))) := e6
        clear e1 e5 UP e6
        go_wp2_with fail
        refine (UQ.out).mono ?_; rintro e w5 ⟨u, c, x, rfl, ⟨ho, -, -⟩, hx, hx5⟩
        obtain ⟨rfl, rfl⟩ : c = 0 ∧ x = .slice none 0 0 := hx
        have ho : w5.ownsRow wr.heap.size 5 1 u D.length (byC D) := ho
        obtain ⟨ua, uc, rfl⟩ := uform ho
        have E6 : Ext w5 ((w5.alloc (.cells #[.int .i64 (K : Int), .slice ua D.length uc, .int .i64 (p : Int), .int .i64 ((M : Int) + (p : Int))] 27)).alloc (.cells #[.int .i64 0, .slice none 0 0] 35)) := ((Ext.refl w5).alloc _).alloc _
        have HE6 := Lib.hid ((HE.out.trans hx5).trans E6)
        have HO6 := Lib.hid (ownsRow_ext (ownsRow_ext HO.out hx5) E6)
        have HY6 := Lib.hid ((Bys.of_owns ho HD.out (by have := HDL.out; omega)).ext E6)
        have hne : Hid (some w5.heap.size ≠ u4.ownBlock) := fun e => by have := (HO.out.lt _ e.symm).2; have := hx5.size; omega
        have HU6 := Lib.hid ((UBox.new w5 (K : Int) (.slice ua D.length uc) (p : Int) ((M : Int) + (p : Int)) 27).ext ((Ext.refl _).alloc (.cells #[.int .i64 0, .slice none 0 0] 35)))
        have HZ6 := Lib.hid (BoxIs.newAt (w5.alloc (.cells #[.int .i64 (K : Int), .slice ua D.length uc, .int .i64 (p : Int), .int .i64 ((M : Int) + (p : Int))] 27)) (w5.heap.size + 1) (by simp) #[.int .i64 0, .slice none 0 0] 35)
        clear HO HE ho hx5 E6 UQ
        go_wp2_with fail
        revert HE6 HO6 HY6 hne HU6 HZ6
        generalize hw6 : World.alloc (World.alloc w5 _) _ = w6
        intro HE6 HO6 HY6 hne HU6 HZ6
        clear hw6
        obtain ⟨⟨z0, z1⟩, -⟩ := HZ6.out.two
        go_wp2_with fail
        refine (ok_any 0 _ _).mono ?_; rintro e w7 ⟨rfl, hx7⟩
        have HE7 := Lib.hid (HE6.out.trans hx7)
        have HO7 := Lib.hid (ownsRow_ext HO6.out hx7)
        have HY7 := Lib.hid (HY6.out.ext hx7)
        have HU7 := Lib.hid (HU6.out.ext hx7)
        clear HE6 HO6 HY6 HU6 HZ6 z0 z1 hx7
        obtain ⟨⟨y0, y1, y2, y3⟩, -⟩ := HU7.out
        rw [show ((0 : Int) == 0) = true from rfl]
        go_wp2_with fail
        refine (rparse_any (K : Int) (p : Int) ((M : Int) + (p : Int)) D _ _ HY7.out).mono ?_; rintro e w8 ⟨c8, x8, rfl, hz8, hx8⟩
        clear y0 y1 y2 y3
        rcases HPR.out with ⟨r, e7, e8, e9⟩ | ⟨c, e7, e8, e9⟩
        · rw [e7] at hz8 ⊢
          obtain ⟨rfl, rfl⟩ : c8 = 0 ∧ x8 = .slice none 0 0 := hz8
          rw [HP.out] at e9
          obtain ⟨f1, f2⟩ := Prod.mk.inj e9
          obtain ⟨g1, g2, g3⟩ := drop_consR f1
          have HP2 : Hid (scR bs (p + M) = (L.drop (k + 1), E)) := by show _ = _; rw [f2, g2]
          have HTK := Lib.hid (rcs_take g1)
          have E9 : Ext w8 ((w8.alloc (.cells #[.int .i64 r.k, .int .i64 r.s, .int .i64 r.n, .int .i64 r.l, .int .i64 r.c] 38)).alloc (.cells #[.int .i64 0, .slice none 0 0] 35)) := ((Ext.refl w8).alloc _).alloc _
          have HE9 := Lib.hid ((HE7.out.trans hx8).trans E9)
          have HO9 := Lib.hid (ownsRow_ext (ownsRow_ext HO7.out hx8) E9)
          have HU9 := Lib.hid ((HU7.out.ext hx8).ext E9)
          have HR9 := Lib.hid ((RcAt.new w8 r 38).ext ((Ext.refl _).alloc (.cells #[.int .i64 0, .slice none 0 0] 35)))
          have HZ9 := Lib.hid (BoxIs.newAt (w8.alloc (.cells #[.int .i64 r.k, .int .i64 r.s, .int .i64 r.n, .int .i64 r.l, .int .i64 r.c] 38)) (w8.heap.size + 1) (by simp) #[.int .i64 0, .slice none 0 0] 35)
          clear e7 e8 e9 f1 f2 g1 g2 hx8 HE7 HO7 HU7 HY7 E9
          go_wp2_with fail
          revert HE9 HO9 HU9 HR9 HZ9
          generalize hw9 : World.alloc (World.alloc w8 _) _ = w9
          intro HE9 HO9 HU9 HR9 HZ9
          clear hw9
          obtain ⟨⟨z0, z1⟩, -⟩ := HZ9.out.two
          go_wp2_with fail
          refine (ok_any 0 _ _).mono ?_; rintro e w10 ⟨rfl, hx10⟩
          have HEA := Lib.hid (HE9.out.trans hx10)
          have HOA := Lib.hid (ownsRow_ext HO9.out hx10)
          have HUA := Lib.hid (HU9.out.ext hx10)
          have HRA := Lib.hid (HR9.out.ext hx10)
          clear HE9 HO9 HU9 HR9 HZ9 z0 z1 hx10
          obtain ⟨q0, q1, q2, q3, q4⟩ := HRA.out
          have hBA := HEA.out.size
          have HCA := Lib.hid HUA.out.1.2.2.2
          rw [show ((0 : Int) == 0) = true from rfl]
          go_wp2_with (at_builtin; refine push_rr rfl _ _ 52 rfl Tryd.underlying52 _ k _ r rfl HOA.out (by show Value.slice (some ⟨_, 0, none⟩) 1 1 = _; simp) hBA (by omega) ?_; intro gB cB wB h1 h2; have HOB : Hid (wB.ownsRow w.heap.size 38 5 (.slice (some ⟨gB, 0, none⟩) (k + 1) cB) (k + 1) (rcs (L.take (k + 1)))) := (by show World.ownsRow _ _ _ _ _ _ _; rw [HTK.out]; exact h1); have HEB := Lib.hid (Below.grown HEA.out h2 HEA.out.size (fun q hq => (HOA.out.lt q hq).1)); have cB9 : wB.cell? ⟨w5.heap.size, 3, none⟩ = some (.int .i64 ((M : Int) + (p : Int))) := (World.cell?_of_block (h2.block _ (Ext.lt HCA.out) hne.out)).trans HCA.out; clear h1 h2)
          go_roundw
          case rel =>
            refine ⟨k + 1, p + M, ⟨by omega, e3⟩, ?_, HP2, HOB, HEB⟩
            rw [Int.add_comm, Int.natCast_add]
          case measure => simp [intOf]; omega
        · rw [e7] at hz8 ⊢
          have hz8 : RErrIs w8 (some ([], c)) c8 x8 := hz8
          obtain ⟨xa, xn, xc, rfl⟩ : ∃ a n cap, x8 = Value.slice a n cap := by obtain ⟨_, _, a, cap, e, -⟩ := hz8; exact ⟨_, _, _, e⟩
          obtain rfl : c8 = c := hz8.1
          have e3 := HP.out.symm.trans e9
          obtain ⟨f1, f2⟩ := Prod.mk.inj e3
          obtain rfl := drop_nilR f1 hk
          subst f2
          have HT : Hid (rcs (L.take L.length) = rcs L) := by show _ = _; rw [List.take_of_length_le (Nat.le_refl _)]
          clear f1 e3
          have E9 : Ext w8 ((w8.alloc (.cells #[.int .i64 zR.k, .int .i64 zR.s, .int .i64 zR.n, .int .i64 zR.l, .int .i64 zR.c] 38)).alloc (.cells #[.int .i64 c8, .slice xa xn xc] 35)) := ((Ext.refl w8).alloc _).alloc _
          have HE9 := Lib.hid ((HE7.out.trans hx8).trans E9)
          have HO9 := Lib.hid (ownsRow_ext (ownsRow_ext HO7.out hx8) E9)
          have HZ9 := Lib.hid (BoxIs.newAt (w8.alloc (.cells #[.int .i64 zR.k, .int .i64 zR.s, .int .i64 zR.n, .int .i64 zR.l, .int .i64 zR.c] 38)) (w8.heap.size + 1) (by simp) #[.int .i64 c8, .slice xa xn xc] 35)
          clear e7 e9 hx8 hz8 HE7 HO7 HU7 HY7 E9
          go_wp2_with fail
          revert HE9 HO9 HZ9
          generalize hw9 : World.alloc (World.alloc w8 _) _ = w9
          intro HE9 HO9 HZ9
          clear hw9
          obtain ⟨⟨z0, z1⟩, -⟩ := HZ9.out.two
          go_wp2_with fail
          refine (ok_any c8 _ _).mono ?_; rintro e w10 ⟨rfl, hx10⟩
          have HEA := Lib.hid (HE9.out.trans hx10)
          have HOA := Lib.hid (ownsRow_ext HO9.out hx10)
          rw [show (c8 == 0) = false by rw [beq_eq_false_iff_ne]; exact e8]
          clear HE9 HO9 HZ9 z0 z1 hx10 e8
          go_wp2
          go_ret2
          exact ⟨_, rfl, by rw [← HT.out]; exact HOA.out, HEA.out⟩
      · rw [e2] at UP
        have UQ := Lib.hid UP
        have e3 := HP.out.symm.trans e3
        obtain ⟨f1, f2⟩ := Prod.mk.inj e3
        obtain rfl := drop_nilR f1 hk
        subst f2
        have HT : Hid (rcs (L.take L.length) = rcs L) := by show _ = _; rw [List.take_of_length_le (Nat.le_refl _)]
        clear f1 e3
        clear e2 UP
        go_wp2_with fail
        refine (UQ.out).mono ?_; rintro e w5 ⟨u, c, x, rfl, ⟨ho, -, -⟩, hx, hx5⟩
        have hx : RErrIs w5 (some ([(unS, (E : Int))], C)) c x := hx
        obtain ⟨xa, xn, xc, rfl⟩ : ∃ a n cap, x = Value.slice a n cap := by obtain ⟨_, _, a, cap, e, -⟩ := hx; exact ⟨_, _, _, e⟩
        obtain rfl : c = C := hx.1
        obtain ⟨ua, uc, rfl⟩ := uform ho
        have E9 : Ext w5 ((w5.alloc (.cells #[.int .i64 0, .slice ua 0 uc, .int .i64 0, .int .i64 0] 27)).alloc (.cells #[.int .i64 c, .slice xa xn xc] 35)) := ((Ext.refl w5).alloc _).alloc _
        have HE9 := Lib.hid ((HE.out.trans hx5).trans E9)
        have HO9 := Lib.hid (ownsRow_ext (ownsRow_ext HO.out hx5) E9)
        have HZ9 := Lib.hid (BoxIs.newAt (w5.alloc (.cells #[.int .i64 0, .slice ua 0 uc, .int .i64 0, .int .i64 0] 27)) (w5.heap.size + 1) (by simp) #[.int .i64 c, .slice xa xn xc] 35)
        clear HE HO hx5 hx ho UQ E9
        go_wp2_with fail
        revert HE9 HO9 HZ9
        generalize hw9 : World.alloc (World.alloc w5 _) _ = w9
        intro HE9 HO9 HZ9
        clear hw9
        obtain ⟨⟨z0, z1⟩, -⟩ := HZ9.out.two
        go_wp2_with fail
        refine (ok_any c _ _).mono ?_; rintro e w10 ⟨rfl, hx10⟩
        have HEA := Lib.hid (HE9.out.trans hx10)
        have HOA := Lib.hid (ownsRow_ext HO9.out hx10)
        rw [show (c == 0) = false by rw [beq_eq_false_iff_ne]; exact e1]
        clear HE9 HO9 HZ9 z0 z1 hx10 e1
        go_wp2
        go_ret2
        exact ⟨_, rfl, by rw [← HT.out]; exact HOA.out, HEA.out⟩
    · have e3 := HP.out.symm.trans (sc_done (bs := bs) (a := p) (by rw [HN.out]; omega))
      obtain ⟨f1, f2⟩ := Prod.mk.inj e3
      obtain rfl := drop_nilR f1 hk
      subst f2
      have HT : Hid (rcs (L.take L.length) = rcs L) := by show _ = _; rw [List.take_of_length_le (Nat.le_refl _)]
      clear f1 e3
      have hlt' : ¬ (E : Int) < (n : Int) := by omega
      go_wp2
      go_ret2
      exact ⟨_, rfl, by rw [← HT.out]; exact HO.out, HE.out⟩
end Go.Proofs.YtmphochnmdmioaaDoor

/- kinlaw26.first, Plain: contracts over this seat's translation. -/
namespace Go.Proofs.YtmphochnmdmioaaDoor
set_option linter.unusedVariables false
set_option linter.unusedSimpArgs false
open Go.RowKit Go.Extern.Stop Go.Stop Go.Extern

theorem pk_a : pkE ⟨50, 0, 0, 0, 2⟩ = none ∧ (pkR ⟨50, 0, 0, 0, 2⟩).length = 9 ∧ (pkR ⟨50, 0, 0, 0, 2⟩)[4]? = some 2 := by
  have h : MayR ⟨50, 0, 0, 0, 2⟩ := by decide
  refine ⟨pkE_none.2 h, by rw [pk_len h]; rfl, ?_⟩
  rw [pkR_form h]
  rfl
theorem pk_b : pkE ⟨50, 0, 0, 0, 0⟩ = some ([], 3) ∧ pkR ⟨50, 0, 0, 0, 0⟩ = [] := by decide
theorem pk_c : pkE ⟨7, 0, 0, 0, 0⟩ = some ([], 13) ∧ pkR ⟨7, 0, 0, 0, 0⟩ = [] := by decide
theorem sc_a : scR [0] 0 = ([], 0) := sc_none (fun h => absurd h.2 (by decide))
set_option maxHeartbeats 8000000 in
set_option maxRecDepth 20000 in
theorem first26_any (w : World) (hg : EtIs w) (hn : NbIs w) : Calls Tryd.prog 9 #[] w fun e w' => e = .returned (.bool true) ∧ Ext w w' := by
  obtain ⟨a1, a2, a3⟩ := pk_a
  obtain ⟨b1, b2⟩ := pk_b
  obtain ⟨c1, c2⟩ := pk_c
  have U1 := lpack_any ⟨50, 0, 0, 0, 2⟩ w hn
  have U2 := fun w h => lpack_any ⟨50, 0, 0, 0, 0⟩ w h
  have U3 := fun w h => lpack_any ⟨7, 0, 0, 0, 0⟩ w h
  have U4 := fun v w h k => scan_any [0] v w h k (by decide)
  obtain ⟨B, hB⟩ : ∃ B, pkR ⟨50, 0, 0, 0, 2⟩ = B := ⟨_, rfl⟩
  rw [hB] at U1 a2 a3
  rw [a1] at U1
  rw [b1, b2] at U2
  rw [c1, c2] at U3
  rw [sc_a] at U4
  have HNB := Lib.hid hn
  have HG := Lib.hid hg
  have HA2 := Lib.hid a2
  have HA3 := Lib.hid a3
  have V1 := Lib.hid U1
  have V2 := Lib.hid U2
  have V3 := Lib.hid U3
  have V4 := Lib.hid U4
  clear a1 a2 a3 b1 b2 c1 c2 hn hg hB U1 U2 U3 U4
  go_enter Tryd.func9, Tryd.ntmps9
  go_wp2_with fail
  refine V1.out.mono ?_; rintro e w1 ⟨u1, z1, rfl, ho1, hz1, hx1⟩
  obtain rfl : z1 = .nilIface := hz1
  rw [HA2.out] at ho1
  obtain ⟨g1, c1, rfl, -, -⟩ := uaddr ho1 (by decide)
  have k4 := ucell ho1 (j := 4) (v := .int .u8 2) (by unfold byC; rw [List.getElem?_map, HA3.out]; rfl)
  have HX1 := Lib.hid hx1
  have HK1 := Lib.hid k4
  clear ho1 hx1 k4 V1
  go_wp2_with fail
  refine (V2.out _ (HNB.out.ext HX1.out)).mono ?_; rintro e w2 ⟨u2, z2, rfl, ho2, hz2, hx2⟩
  obtain ⟨t2, y2, rfl⟩ := ErrIs.ne hz2
  have HX2 := Lib.hid (HX1.out.trans hx2)
  have HZ2 := Lib.hid hz2
  have HK2 := Lib.hid (hx2.cell HK1.out)
  obtain ⟨a2, m2, c2, rfl⟩ := own_slc ho2
  clear ho2 hx2 hz2 V2 HK1
  go_wp2_with fail
  refine (V3.out _ (HNB.out.ext HX2.out)).mono ?_; rintro e w3 ⟨u3, z3, rfl, ho3, hz3, hx3⟩
  obtain ⟨t3, y3, rfl⟩ := ErrIs.ne hz3
  have HX3 := Lib.hid (HX2.out.trans hx3)
  have HZ3 := Lib.hid hz3
  have HZ2 := Lib.hid (ErrIs.ext HZ2.out hx3)
  have HK3 := Lib.hid (hx3.cell HK2.out)
  obtain ⟨a3, m3, c3, rfl⟩ := own_slc ho3
  have HB4 := Lib.hid ((Ext.refl w3).alloc (.cells #[.int .u8 0] 5))
  have HY4 := Lib.hid (Bys.lit w3 (0, 0) [0] (by decide) (by decide))
  clear ho3 hx3 hz3 V3 HK2
  go_wp2_with fail
  refine (V4.out _ _ (HNB.out.ext (HX3.out.trans HB4.out)) HY4.out).mono ?_; rintro e w4 ⟨u4, rfl, ho4, hx4⟩
  have HX4 := Lib.hid (HX3.out.trans (HB4.out.trans hx4))
  have HZ2 := Lib.hid (ErrIs.ext HZ2.out (HB4.out.trans hx4))
  have HZ3 := Lib.hid (ErrIs.ext HZ3.out (HB4.out.trans hx4))
  have HK4 := Lib.hid ((HB4.out.trans hx4).cell HK3.out)
  have ho4 : w4.ownsRow _ 24 5 u4 0 (rcs []) := ho4
  obtain ⟨a4, c4, rfl⟩ := uform ho4
  clear ho4 hx4 V4 HK3 HB4 HY4
  have k4 := HK4.out
  go_wp2_with fail
  refine (fail_any 3 _).mono ?_; rintro e w5 ⟨rfl, hx5⟩
  have HX5 := Lib.hid (HX4.out.trans hx5)
  have HZ2 := Lib.hid (ErrIs.ext HZ2.out hx5)
  have HZ3 := Lib.hid (ErrIs.ext HZ3.out hx5)
  clear hx5 k4 HK4
  go_wp2_with fail
  refine (same_fall (some ([], 3)) _ _ _ _ (HG.out.ext HX5.out) HZ2.out (RErrIs.code (by decide))).mono ?_; rintro e w6 ⟨rfl, hx6⟩
  have HX6 := Lib.hid (HX5.out.trans hx6)
  have HZ3 := Lib.hid (ErrIs.ext HZ3.out hx6)
  clear hx6
  go_wp2_with fail
  refine (fail_any 13 _).mono ?_; rintro e w7 ⟨rfl, hx7⟩
  have HX7 := Lib.hid (HX6.out.trans hx7)
  have HZ3 := Lib.hid (ErrIs.ext HZ3.out hx7)
  clear hx7
  go_wp2_with fail
  refine (same_fall (some ([], 13)) _ _ _ _ (HG.out.ext HX7.out) HZ3.out (RErrIs.code (by decide))).mono ?_; rintro e w8 ⟨rfl, hx8⟩
  have HX8 := Lib.hid (HX7.out.trans hx8)
  go_wp2
  go_ret
  exact ⟨rfl, HX8.out⟩
set_option maxHeartbeats 4000000 in
set_option maxRecDepth 20000 in
theorem plain_any (r : Rc) (w : World) : Calls Tryd.prog 12 #[rcA r] w fun e w' => e = .returned (rcA r) ∧ Ext w w' := by
  obtain ⟨k, s, n, l, c⟩ := r
  go_enter Tryd.func12, Tryd.ntmps12
  go_wp2
  exact bodyPost_ret (v := .agg #[.int .i64 k, .int .i64 s, .int .i64 n, .int .i64 l, .int .i64 c]) (by simp [results, Tryd.results12, go_sem]) rfl ⟨rfl, ((Ext.refl w).alloc _).alloc _⟩
end Go.Proofs.YtmphochnmdmioaaDoor

/- kinlaw26.Same: its contract; LogScans: the walk. -/
namespace Go.Proofs.YtmphochnmdmioaaDoor
set_option linter.unusedVariables false
set_option linter.unusedSimpArgs false
open Go.RowKit Go.Extern.Stop Go.Stop Go.Extern

theorem rc_at {w : World} {base n cap g : Nat} {e : TypeId} {L : List Rc} (h : w.ownsRow base e 5 (.slice (some ⟨g, 0, none⟩) n cap) n (rcs L)) {i : Nat} {r : Rc} (hi : L[i]? = some r) : RcAt w g (i * 5) r :=
  ⟨by have := ucell h (rcs_get hi 0 _ rfl); rwa [Nat.add_zero] at this, ucell h (rcs_get hi 1 _ rfl), ucell h (rcs_get hi 2 _ rfl), ucell h (rcs_get hi 3 _ rfl), ucell h (rcs_get hi 4 _ rfl)⟩
set_option maxHeartbeats 4000000 in
set_option maxRecDepth 20000 in
theorem same26_any (L : List Rc) (u v : Value) (b1 b2 : Nat) (w : World) (hu : w.ownsRow b1 24 5 u L.length (rcs L)) (hv : w.ownsRow b2 38 5 v L.length (rcs L)) (hl : L.length ≤ 1000000) :
    Calls Tryd.prog 21 #[u, v] w fun e w' => e = .returned (.bool true) ∧ Ext w w' := by
  obtain ⟨ua, uc, rfl⟩ := uform hu
  obtain ⟨va, vc, rfl⟩ := uform hv
  obtain ⟨n, hn⟩ : ∃ n, L.length = n := ⟨_, rfl⟩
  rw [hn] at hu hv hl ⊢
  have HU := Lib.hid hu
  have HV := Lib.hid hv
  have HN := Lib.hid hn
  clear hu hv hn
  go_enter Tryd.func21, Tryd.ntmps21
  go_wp2_with fail
  go_loopw [5] (fun iv wr => ∃ i : Nat, i ≤ n ∧ iv = .int .i64 (i : Int) ∧ Hid (Ext w wr)) (fun iv _ => n - (intOf iv).toNat)
  case atStart => exact ⟨0, Nat.zero_le _, rfl, Ext.refl w⟩
  case round =>
    obtain ⟨i, hi, rfl, HE⟩ := hrel
    by_cases hlt : i < n
    · obtain ⟨r, hr⟩ : ∃ r, L[i]? = some r := ⟨_, List.getElem?_eq_getElem (by rw [HN.out]; exact hlt)⟩
      obtain ⟨g, cu, e1, -, -⟩ := uaddr HU.out (by omega)
      obtain ⟨h, cv, e2, -, -⟩ := uaddr HV.out (by omega)
      simp only [Value.slice.injEq, true_and] at e1 e2
      obtain ⟨rfl, rfl⟩ := e1
      obtain ⟨rfl, rfl⟩ := e2
      obtain ⟨p0, p1, p2, p3, p4⟩ := (rc_at HU.out hr).ext HE.out
      obtain ⟨q0, q1, q2, q3, q4⟩ := (rc_at HV.out hr).ext HE.out
      have x1 : (0 : Int) ≤ (i : Int) := by omega
      have x2 : (i : Int) < (n : Int) := by omega
      have UPL := Lib.hid (fun W => plain_any r W)
      clear hr
      obtain ⟨k, s, m, l, c⟩ := r
      simp only at p0 p1 p2 p3 p4 q0 q1 q2 q3 q4
      have KS : Hid (∀ w', Ext wr w' → (w'.cell? ⟨g, i * 5, none⟩ = some (.int .i64 k) ∧ w'.cell? ⟨g, i * 5 + 1, none⟩ = some (.int .i64 s) ∧ w'.cell? ⟨g, i * 5 + 2, none⟩ = some (.int .i64 m) ∧ w'.cell? ⟨g, i * 5 + 3, none⟩ = some (.int .i64 l) ∧ w'.cell? ⟨g, i * 5 + 4, none⟩ = some (.int .i64 c)) ∧ (w'.cell? ⟨h, i * 5, none⟩ = some (.int .i64 k) ∧ w'.cell? ⟨h, i * 5 + 1, none⟩ = some (.int .i64 s) ∧ w'.cell? ⟨h, i * 5 + 2, none⟩ = some (.int .i64 m) ∧ w'.cell? ⟨h, i * 5 + 3, none⟩ = some (.int .i64 l) ∧ w'.cell? ⟨h, i * 5 + 4, none⟩ = some (.int .i64 c)) ∧ Ext wr w') := fun w' x => ⟨⟨x.cell p0, x.cell p1, x.cell p2, x.cell p3, x.cell p4⟩, ⟨x.cell q0, x.cell q1, x.cell q2, x.cell q3, x.cell q4⟩, x⟩
      go_wp2_with fail
      go_region_held3 (fun w' => (w'.cell? ⟨g, i * 5, none⟩ = some (.int .i64 k) ∧ w'.cell? ⟨g, i * 5 + 1, none⟩ = some (.int .i64 s) ∧ w'.cell? ⟨g, i * 5 + 2, none⟩ = some (.int .i64 m) ∧ w'.cell? ⟨g, i * 5 + 3, none⟩ = some (.int .i64 l) ∧ w'.cell? ⟨g, i * 5 + 4, none⟩ = some (.int .i64 c)) ∧ (w'.cell? ⟨h, i * 5, none⟩ = some (.int .i64 k) ∧ w'.cell? ⟨h, i * 5 + 1, none⟩ = some (.int .i64 s) ∧ w'.cell? ⟨h, i * 5 + 2, none⟩ = some (.int .i64 m) ∧ w'.cell? ⟨h, i * 5 + 3, none⟩ = some (.int .i64 l) ∧ w'.cell? ⟨h, i * 5 + 4, none⟩ = some (.int .i64 c)) ∧ Ext wr w')
        (first | assumption | (exact KS.out _ (by repeat (first | exact Ext.refl _ | assumption | refine Ext.drew ?_ | refine Ext.trans ?_ (by assumption)))) | (go_split_ands; exact KS.out _ (by repeat (first | exact Ext.refl _ | assumption | refine Ext.drew ?_ | refine Ext.trans ?_ (by assumption)))))
        ((go_at_call 12; refine (UPL.out _).mono ?_; rintro e w2 ⟨rfl, hx2⟩))
      all_goals obtain ⟨-, -, hE2⟩ : _ ∧ _ ∧ Ext wr _ := by assumption
      all_goals have HE2 := Lib.hid (HE.out.trans hE2)
      all_goals go_wp2
      all_goals go_roundw
      all_goals first
        | exact ⟨i + 1, by omega, by go_num, HE2.out⟩
        | (simp [intOf]; omega)
    · obtain rfl : i = n := by omega
      go_wp2
      go_ret
      exact ⟨rfl, HE.out⟩
set_option maxHeartbeats 4000000 in
set_option maxRecDepth 20000 in
theorem logscans_law (bs : List Nat) (v : Value) (w : World) (hg : EtIs w) (hnb : NbIs w) (rb : Row w v bs.length (bs.map fun x : Nat => Value.int .u8 (x : Int))) (hb : ∀ x ∈ bs, x < 256) :
    Calls Tryd.prog 4 #[v] w fun e w' => e = .returned (.bool true) ∧ Ext w w' := by
  have HG := Lib.hid hg
  have HNB := Lib.hid hnb
  obtain ⟨a, cap, rfl⟩ := rb.form
  obtain ⟨n, hn⟩ : ∃ n, bs.length = n := ⟨_, rfl⟩
  have HN := Lib.hid hn
  by_cases hl : 20000 < n
  · have hl' : (20000 : Int) < (n : Int) := by omega
    rw [hn]
    clear hg hnb rb hn
    go_enter Tryd.func4, Tryd.ntmps4
    go_wp2_with fail
    refine (first26_any _ HG.out HNB.out).mono ?_; rintro e w1 ⟨rfl, hx1⟩
    have HX1 := Lib.hid hx1
    clear hx1
    go_wp2_with fail
    refine (first26_any _ (HG.out.ext HX1.out) (HNB.out.ext HX1.out)).mono ?_; rintro e w2 ⟨rfl, hx2⟩
    have HX2 := Lib.hid (HX1.out.trans hx2)
    clear hx2
    go_wp2
    go_ret
    exact ⟨rfl, HX2.out⟩
  · have hl' : ¬ (20000 : Int) < (n : Int) := by omega
    have HB : Hid (Bys w (.slice a n cap) bs) := ⟨by rw [hn] at rb ⊢; exact rb, hb, by rw [hn]; omega⟩
    have US := Lib.hid (fun v w h k => scan_any bs v w h k (by rw [hn]; omega))
    have UR := Lib.hid (fun v w h => rscan_any bs v w h (by rw [hn]; omega))
    have hc := sc_count bs (bs.length + 1) 0 (by omega) (Nat.zero_le _)
    obtain ⟨⟨L, E⟩, hR⟩ : ∃ R, scR bs 0 = R := ⟨_, rfl⟩
    rw [hR] at US UR hc
    have hL : Hid (L.length ≤ 1000000) := by show _ ≤ _; have : L.length + 0 ≤ E ∧ E ≤ bs.length := hc; omega
    rw [hn]
    clear hg hnb rb hn hR hc
    go_enter Tryd.func4, Tryd.ntmps4
    go_wp2_with fail
    refine (first26_any _ HG.out HNB.out).mono ?_; rintro e w1 ⟨rfl, hx1⟩
    have HX1 := Lib.hid hx1
    clear hx1
    go_wp2_with fail
    refine (US.out _ _ (HNB.out.ext HX1.out) (HB.out.ext HX1.out)).mono ?_; rintro e w2 ⟨u2, rfl, ho2, hx2⟩
    have HX2 := Lib.hid (HX1.out.trans hx2)
    have HO2 := Lib.hid ho2
    clear ho2 hx2
    go_wp2_with fail
    refine (UR.out _ _ (HB.out.ext HX2.out)).mono ?_; rintro e w3 ⟨u3, rfl, ho3, hx3⟩
    have HX3 := Lib.hid (HX2.out.trans hx3)
    have HO3 := Lib.hid ho3
    have HO2 := Lib.hid (ownsRow_ext HO2.out hx3)
    clear ho3 hx3
    go_wp2_with fail
    refine (first26_any _ (HG.out.ext HX3.out) (HNB.out.ext HX3.out)).mono ?_; rintro e w4 ⟨rfl, hx4⟩
    have HX4 := Lib.hid (HX3.out.trans hx4)
    have HO3 := Lib.hid (ownsRow_ext HO3.out hx4)
    have HO2 := Lib.hid (ownsRow_ext HO2.out hx4)
    clear hx4
    go_wp2_with fail
    refine (same26_any L _ _ _ _ _ HO2.out HO3.out hL.out).mono ?_; rintro e w5 ⟨rfl, hx5⟩
    have HX5 := Lib.hid (HX4.out.trans hx5)
    clear hx5
    go_wp2
    go_ret
    exact ⟨rfl, HX5.out⟩
end Go.Proofs.YtmphochnmdmioaaDoor
