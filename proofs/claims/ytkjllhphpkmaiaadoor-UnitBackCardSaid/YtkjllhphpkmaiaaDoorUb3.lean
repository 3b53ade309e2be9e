/- kinlaw4.made: its contract over this seat's translation. -/
import Derived.Test.YtkjllhphpkmaiaaDoorUb2
import Derived.Deep.RegionLaw
namespace Go.Proofs.YtkjllhphpkmaiaaDoor
set_option linter.unusedVariables false
set_option linter.unusedSimpArgs false
open Go.RowKit Go.Extern.Stop Go.Stop Go.Extern

theorem step_push_un {ops : Array Oper} {o : Oper} {a : Act} {K : Act → World → Prop} {Q : Exit → Act → World → Prop} {X : Prop} {W : World} {base : Nat} (hgd : o.guard = none) (s y : Operand) (t : TypeId)
    (ho : o.op = .call { callee := .builtin .append, args := #[s, y], argTypes := #[t, t] }) (ht : Tryd.prog.underlying t = some (.slice 44))
    (v : Value) (n : Nat) (xs : List Value) (k A E : Int) (su : Value) (hsu : su.oneCell' = true) (hs : a.eval s = v) (hown : W.ownsRow base 44 4 v n xs) (hx : a.eval y = .slice (some ⟨W.heap.size, 0, none⟩) 1 1) (hb : base ≤ W.heap.size) (hn : n ≤ 1000000)
    (h : ∀ g cap w', w'.ownsRow base 44 4 (.slice (some ⟨g, 0, none⟩) (n + 1) cap) (n + 1) (xs ++ [.int .i64 k, su, .int .i64 A, .int .i64 E]) → W.grownBy w' v.ownBlock → K (a.put o.dst (.slice (some ⟨g, 0, none⟩) (n + 1) cap)) w') :
    if Region.wanted o (yielded ops a.tmps) = true then Oper.wp Tryd.prog o a ((W.alloc (.cells #[.int .i64 k, su, .int .i64 A, .int .i64 E] 44)).drew) K Q else X := by
  obtain ⟨i0, hi, hz0, hz1, hz2⟩ := info_parts infoUn
  have hown' : ((W.alloc (.cells #[.int .i64 k, su, .int .i64 A, .int .i64 E] 44)).drew).ownsRow base 44 4 v n xs := (hown.alloc _).drew
  refine step_append_lies _ hgd s y t ho base 44 i0 _ 4 48 ht hi hz0 hz1 hz2 rfl (by decide) v n xs hs hown' ⟨W.heap.size, 0, none⟩ 1 1 [.int .i64 k, su, .int .i64 A, .int .i64 E] hx rfl (World.news_of_block (cs := #[.int .i64 k, su, .int .i64 A, .int .i64 E]) (t := 44) (fr := (0, 0)) (heap_alloc_new W _)) ?_ (by decide) (by unfold maxLen; omega) (by omega) (by simp; omega) (W.heap.size + 1) (by simp) ?_
  · intro u hu
    simp only [List.mem_cons, List.not_mem_nil, or_false] at hu
    rcases hu with rfl | rfl | rfl | rfl
    · rfl
    · exact hsu
    · rfl
    · rfl
  intro g cap w' h1 h2 h3 _
  refine h g cap w' h1 ⟨h2.os, h2.tape, h2.output, Nat.le_trans (by simp) h2.size, fun k hk hne => ?_⟩
  exact (h2.block k (by simp; omega) hne).trans (Below.heap_alloc W _ k hk)
/-- an append of one int -/
theorem push_i {ops : Array Oper} {rest : List Oper} {o : Oper} {a : Act} {Q : Exit → Act → World → Prop} {W : World} {base : Nat} (hgd : o.guard = none) (s y : Operand) (t : TypeId)
    (ho : o.op = .call { callee := .builtin .append, args := #[s, y], argTypes := #[t, t] }) (ht : Tryd.prog.underlying t = some (.slice 3))
    (v : Value) (n : Nat) (xs : List Value) (x : Int) (hs : a.eval s = v) (hown : W.ownsRow base 3 1 v n xs) (hx : a.eval y = .slice (some ⟨W.heap.size, 0, none⟩) 1 1) (hb : base ≤ W.heap.size) (hn : n ≤ 1000000000000)
    (h : ∀ v' w', w'.ownsRow base 3 1 v' (n + 1) (xs ++ [.int .i64 x]) → W.grownBy w' v.ownBlock → wpList Tryd.prog ops Q rest (a.put o.dst v') w') :
    wpList Tryd.prog ops Q (o :: rest) a (W.alloc (.cells #[.int .i64 x] 3)) := by
  obtain ⟨i0, hi, hz0, hz1, hz2⟩ := info_parts infoInt
  refine wpList_append_own_at _ hgd s y t ho base 3 i0 (.int .i64 0) 1 8 ht hi hz0 hz1 hz2 rfl (by decide) v n xs hs (hown.alloc _) ⟨W.heap.size, 0, none⟩ 1 1 [.int .i64 x] hx rfl (cell_one_new _ _ _) (one_int _) (by unfold maxLen; omega) (by omega) (by simp; omega) ?_
  intro v' w' h1 h2 h3 h4
  refine h v' w' h1 ⟨h2.os, h2.tape, h2.output, Nat.le_trans (by simp) h2.size, fun k hk hne => ?_⟩
  exact (h2.block k (by simp; omega) hne).trans (Below.heap_alloc W _ k hk)
/-- a row of one type stays when one of another type grows -/
theorem own_other {W W' : World} {b b' n n' s s' : Nat} {e e' : TypeId} {v v' : Value} {xs xs' : List Value} (h : W.ownsRow b e s v n xs) (k : W.ownsRow b' e' s' v' n' xs') (hne : e ≠ e') (g : W.grownBy W' v'.ownBlock) : W'.ownsRow b e s v n xs := by
  refine own_kept h g ?_
  rcases h.2 with ⟨rfl, -⟩ | ⟨c, cap, cur, rfl, -, hg, -⟩
  · exact .inl rfl
  · right
    intro e9
    rcases k.2 with ⟨rfl, -⟩ | ⟨c', cap', cur', rfl, -, hg', -⟩
    · cases e9
    · have : c = c' := Option.some.inj e9
      subst this
      rw [hg] at hg'
      simp only [Option.some.injEq, Obj.cells.injEq] at hg'
      exact hne hg'.2.1
theorem own_ext2 {W W' W0 : World} {b n s : Nat} {e : TypeId} {v : Value} {xs : List Value} (h : W.ownsRow b e s v n xs) (g : W.grownBy W' v.ownBlock) (hu : Ext W0 W) (hb : W0.heap.size ≤ b) : Ext W0 W' :=
  Below.grown hu g hu.size (fun k hk => by have := (h.lt k hk).1; omega)
theorem ukF_none {K : Int} {n : Nat} (h : ukF K n = none) : 0 ≤ K ∧ K ≤ 255 ∧ (K = 0 → n = 0) ∧ n ≤ 65536 := by
  unfold ukF at h
  split at h
  · cases h
  · split at h
    · cases h
    · omega
theorem unD_old {L : List Un} {x : Un} {q : Nat} (h : q < L.length) : unD (L ++ [x]) q = unD L q := by
  unfold unD
  rw [List.getD, List.getD, List.getElem?_append_left h]
theorem unD_new (L : List Un) (x : Un) : unD (L ++ [x]) L.length = x := by
  unfold unD
  rw [List.getD, List.getElem?_append_right (Nat.le_refl _), Nat.sub_self]
  rfl
theorem ucs_snoc (L : List Un) (S : Nat → Value) (x : Un) (sv : Value) {n : Nat} (hn : n = L.length) : ucs (L ++ [x]) (fun q => if q = n then sv else S q) (n + 1) = ucs L S n ++ [.int .i64 (x.1 : Int), sv, .int .i64 x.2.2.1, .int .i64 x.2.2.2] := by
  rw [ucs_succ, if_pos rfl, ucs_congr (M := L) (T := S) (fun q hq => if_neg (by omega)) (fun q hq => unD_old (by omega)), show unD (L ++ [x]) n = x by rw [hn]; exact unD_new L x]
theorem Bys.of_owns2 {w : World} {base n : Nat} {v : Value} {bs : List Nat} (h : w.ownsRow base 5 1 v n (byC bs)) (hn : bs.length = n) (hb : ∀ x ∈ bs, x < 256) (hl : n ≤ 100000) : Bys w v bs := by
  subst hn
  exact Bys.of_owns h hb (by omega)
def MdPost (w : World) (e : Ending) (w' : World) : Prop := ∃ (l : List Um) (ov ev av : Value), e = .returned (.tuple #[ov, ev, av]) ∧ (∀ u ∈ l, okM u) ∧ ((outM l).length ≤ 30000 ∧ l.length ≤ 200) ∧ Bys w' ov (outM l) ∧ Ints w' ev (endsM l) ∧ Uns w' av (lay 0 l) ∧ Ext w w'
def MdRel (w wr : World) (L : List (List Nat)) (ov ev av : Value) (i : Nat) (l : List Um) (S : Nat → Value) : Prop := Hid ((∀ u ∈ l, okM u) ∧ l.length ≤ i ∧ ((outM l).length : Int) ≤ fewN L i + 8 * i) ∧ Hid (wr.ownsRow w.heap.size 5 1 ov (outM l).length (byC (outM l))) ∧ Hid (wr.ownsRow w.heap.size 3 1 ev l.length ((endsM l).map (Value.int .i64))) ∧ Hid (wr.ownsRow w.heap.size 44 4 av l.length (ucs (lay 0 l) S l.length)) ∧ Hid (∀ q, q < l.length → Bys w (S q) (unD (lay 0 l) q).2.1) ∧ Hid (Ext w wr)
theorem made_step {w wr : World} {L : List (List Nat)} {ov ev av : Value} {i k G P E : Nat} {D : List Nat} {sv : Value} {l : List Um} {S : Nat → Value} (h1 : ∀ u ∈ l, okM u) (h2 : l.length ≤ i) (hok : okM (k, D)) (hE : (encB k D).length = E) (hP : (outM l).length = P) (hG : P + E = G) (hGp : (G : Int) ≤ fewN L (i + 1) + 8 * ((i + 1 : Nat) : Int))
    (ho : wr.ownsRow w.heap.size 5 1 ov G (byC (outM l ++ encB k D))) (he : wr.ownsRow w.heap.size 3 1 ev (l.length + 1) ((endsM l).map (Value.int .i64) ++ [.int .i64 (G : Int)])) (hu : wr.ownsRow w.heap.size 44 4 av (l.length + 1) (ucs (lay 0 l) S l.length ++ [.int .i64 (k : Int), sv, .int .i64 (P : Int), .int .i64 (G : Int)])) (hS : ∀ q, q < l.length → Bys w (S q) (unD (lay 0 l) q).2.1) (hD : Bys w sv D) (hx : Ext w wr) :
    MdRel w wr L ov ev av (i + 1) (l ++ [(k, D)]) (fun q => if q = l.length then sv else S q) := by
  have e1 : (l ++ [(k, D)]).length = l.length + 1 := by rw [List.length_append]; rfl
  have e3 : outM (l ++ [(k, D)]) = outM l ++ encB k D := out_snoc l (k, D)
  have e2 : (outM (l ++ [(k, D)])).length = G := by rw [e3, List.length_append, hP, hE, hG]
  have e4 : endsM (l ++ [(k, D)]) = endsM l ++ [(G : Int)] := by
    rw [ends_snoc]
    show _ ++ [((outM l ++ encB k D).length : Int)] = _
    rw [List.length_append, hP, hE, hG]
  have e5 : lay 0 (l ++ [(k, D)]) = lay 0 l ++ [(k, D, (P : Int), (G : Int))] := by
    rw [lay_snoc]
    show _ ++ [(k, D, ((outM l).length : Int), (((outM l).length + (encB k D).length : Nat) : Int))] = _
    rw [hP, hE, hG]
  have e6 : l.length = (lay 0 l).length := (lay_len 0 l).symm
  refine ⟨⟨fun u hu => ?_, by rw [e1]; omega, by rw [e2]; exact hGp⟩, ?_, ?_, ?_, fun q hq => ?_, hx⟩
  · rcases List.mem_append.1 hu with hu | hu
    · exact h1 u hu
    · rw [List.mem_singleton] at hu
      rw [hu]
      exact hok
  · show World.ownsRow _ _ _ _ _ _ _
    rw [e2, e3]
    exact ho
  · show World.ownsRow _ _ _ _ _ _ _
    rw [e1, e4, List.map_append]
    exact he
  · show World.ownsRow _ _ _ _ _ _ _
    rw [e1, e5, ucs_snoc _ S _ sv e6]
    exact hu
  · rw [e1] at hq
    rw [e5]
    by_cases hql : q = l.length
    · subst hql
      show Bys w (if l.length = l.length then sv else _) _
      rw [if_pos rfl]
      have := unD_new (lay 0 l) (k, D, (P : Int), (G : Int))
      rw [← e6] at this
      rw [this]
      exact hD
    · show Bys w (if q = l.length then sv else S q) _
      rw [if_neg hql, unD_old (by omega)]
      exact hS q (by omega)
set_option maxRecDepth 20000 in
set_option maxHeartbeats 4000000 in
theorem made_any (ks : List Int) (L : List (List Nat)) (v u : Value) (w : World) (hnb : NbIs w) (hk : Row w v ks.length (ks.map (Value.int .i64))) (h : Bmt w u L) (hf : fewB L = true) :
    Calls Tryd.prog 28 #[v, u] w (MdPost w) := by
  obtain ⟨a1, c1, rfl⟩ := hk.form
  obtain ⟨a2, c2, rfl⟩ := h.form
  obtain ⟨f1, f2⟩ := few_out hf
  obtain ⟨n, hn⟩ : ∃ n, ks.length = n := ⟨_, rfl⟩
  obtain ⟨m, hm⟩ : ∃ m, L.length = m := ⟨_, rfl⟩
  rw [hn] at hk ⊢
  rw [hm] at h f1 f2 ⊢
  have HK := Lib.hid hk
  have HL := Lib.hid h
  have HN := Lib.hid hn
  have HM := Lib.hid hm
  have HF2 := Lib.hid f2
  have HNB := Lib.hid hnb
  clear hk h hn hm hf f2 hnb
  go_enter Tryd.func28, Tryd.ntmps28
  go_wp2
  go_loopw [7, 8, 9, 10] (fun ov ev av iv wr => ∃ (i : Nat) (l : List Um) (S : Nat → Value), (i ≤ n ∧ i ≤ m) ∧ iv = .int .i64 (i : Int) ∧ Hid ((∀ u ∈ l, okM u) ∧ l.length ≤ i ∧ ((outM l).length : Int) ≤ fewN L i + 8 * i) ∧ Hid (wr.ownsRow w.heap.size 5 1 ov (outM l).length (byC (outM l))) ∧ Hid (wr.ownsRow w.heap.size 3 1 ev l.length ((endsM l).map (Value.int .i64))) ∧ Hid (wr.ownsRow w.heap.size 44 4 av l.length (ucs (lay 0 l) S l.length)) ∧ Hid (∀ q, q < l.length → Bys w (S q) (unD (lay 0 l) q).2.1) ∧ Hid (Ext w wr)) (fun _ _ _ iv _ => n - (intOf iv).toNat)
  case atStart => exact ⟨0, [], fun _ => .slice none 0 0, ⟨Nat.zero_le _, Nat.zero_le _⟩, rfl, ⟨fun u hu => absurd hu (List.not_mem_nil), Nat.le_refl _, by show ((0 : Nat) : Int) ≤ 0 + 8 * ((0 : Nat) : Int); omega⟩, World.ownsRow_nil _ _ _ _, World.ownsRow_nil _ _ _ _, World.ownsRow_nil _ _ _ _, fun q hq => absurd hq (Nat.not_lt_zero _), Ext.refl w⟩
  case round =>
    obtain ⟨i, l, S, ⟨hi1, hi2⟩, rfl, HP, HO, HI, HU, HD, HE⟩ := hrel
    by_cases hin : i < n
    · by_cases him : i < m
      · obtain ⟨K, hK⟩ : ∃ K, ks[i]? = some K := ⟨_, List.getElem?_eq_getElem (by rw [HN.out]; exact hin)⟩
        obtain ⟨D, hD⟩ : ∃ D, L[i]? = some D := ⟨_, List.getElem?_eq_getElem (by rw [HM.out]; exact him)⟩
        obtain ⟨g2, o2, rfl⟩ := HL.out.had (by omega)
        obtain ⟨a', cap', e, -, -, h3, h4⟩ := HK.out
        simp only [Value.slice.injEq] at e
        obtain ⟨rfl, -, rfl⟩ := e
        obtain ⟨g1, o1, rfl⟩ := h3 (by omega)
        have cK := HE.out.cell (h4 g1 o1 rfl i (.int .i64 K) (by rw [List.getElem?_map, hK]; rfl))
        obtain ⟨ra, rc, cD0, cD1, cD2, cD3⟩ := HL.out.at hD
        have cD := HE.out.cell cD0
        obtain ⟨d, hd⟩ : ∃ d, D.length = d := ⟨_, rfl⟩
        have hfs : fewN L (i + 1) = fewN L i + min (d : Int) 20001 := by show fewN L i + _ = _; rw [List.getD, hD]; show fewN L i + min (D.length : Int) 20001 = _; rw [hd]
        have hfm := fewN_mono L (show i + 1 ≤ m by omega)
        have hf0 := (fewN_bound L i).1
        have hd2 : d ≤ 20000 := by have := HF2.out; omega
        have HDB : Hid (∀ w', Ext w w' → Bys w' (.slice ra d rc) D) := fun w' x => by
          rw [← hd]
          exact ⟨cD1.ext x, cD2, by rw [hd]; omega⟩
        have HPD : Hid (Plain (.slice ra d rc)) := by show Plain _; rw [← hd]; exact cD3
        rw [hd] at cD
        have HDL := Lib.hid hd
        have HFS : Hid (fewN L i + (d : Int) ≤ fewN L (i + 1)) := by show _ ≤ _; omega
        have HFT : Hid (fewN L (i + 1) ≤ 20000) := by show _ ≤ _; have := HF2.out; omega
        have UM : Hid (∀ w', Ext wr w' → Calls Tryd.prog 12 #[.int .i64 K, .slice ra d rc] w' (MPost w' (ukV K D) (ukF K d))) := fun w' x => by
          have := make_any K D _ w' (HNB.out.ext (HE.out.trans x)) (HDB.out _ (HE.out.trans x)) HPD.out
          rw [hd] at this
          exact this
        have KS : Hid (∀ w', Ext wr w' → w'.cell? ⟨g1, o1 + i, none⟩ = some (.int .i64 K) ∧ w'.cell? ⟨g2, o2 + i, none⟩ = some (.slice ra d rc) ∧ Ext wr w') := fun w' x => ⟨x.cell cK, x.cell cD, x⟩
        have x1 : (0 : Int) ≤ (i : Int) := by omega
        have x2 : (i : Int) < (n : Int) := by omega
        have x3 : (i : Int) < (m : Int) := by omega
        clear h3 h4 cD0 cD1 cD2 cD3 hD hK hd hfs hfm hf0
        go_wp2_with fail
        go_region_held3 (fun w' => w'.cell? ⟨g1, o1 + i, none⟩ = some (.int .i64 K) ∧ w'.cell? ⟨g2, o2 + i, none⟩ = some (.slice ra d rc) ∧ Ext wr w')
          (first | assumption | (exact KS.out _ (by repeat (first | exact Ext.refl _ | assumption | refine Ext.drew ?_ | refine Ext.trans ?_ (by assumption)))) | (go_split_ands; exact KS.out _ (by repeat (first | exact Ext.refl _ | assumption | refine Ext.drew ?_ | refine Ext.trans ?_ (by assumption)))))
          ((go_at_call 12; obtain ⟨_, _, hE1⟩ : _ ∧ _ ∧ Ext wr _ := (by assumption); refine (UM.out _ hE1).mono ?_; rintro e w5 ⟨bv, bx, rfl, hob, heb, hx5⟩; have HOB := Lib.hid (owns_base hob hE1.size); have HEB := Lib.hid heb; have HX5 := Lib.hid (hE1.trans hx5)))
        have HE5 := Lib.hid (HE.out.trans HX5.out)
        have HO5 := Lib.hid (ownsRow_ext HO.out HX5.out)
        have HI5 := Lib.hid (ownsRow_ext HI.out HX5.out)
        have HU5 := Lib.hid (ownsRow_ext HU.out HX5.out)
        have HB5 := Lib.hid (owns_base HOB.out HE.out.size)
        have cK5 := HX5.out.cell cK
        have cD5 := HX5.out.cell cD
        obtain ⟨hp1, hp2, hp3⟩ := HP.out
        clear KS UM HO HI HU HOB cK cD hob heb hx5
        cases hF : ukF K d with
        | some fa =>
          rw [hF] at HEB
          obtain ⟨tz, qz, rfl⟩ := ErrIs.ne HEB.out
          go_wp2
          go_roundw
          case rel => exact ⟨i + 1, l, S, ⟨by omega, by omega⟩, by go_num, ⟨hp1, by omega, by have := HFS.out; omega⟩, HO5.out, HI5.out, HU5.out, HD.out, HE5.out⟩
          case measure => simp [intOf]; omega
        | none =>
          rw [hF] at HEB
          obtain rfl : bx = .nilIface := HEB.out
          obtain ⟨k0, k1, k2, k3⟩ := ukF_none hF
          obtain ⟨k, rfl⟩ : ∃ k : Nat, K = (k : Int) := ⟨K.toNat, by omega⟩
          have hV : ukV (k : Int) D = encB k D := by unfold ukV; rw [HDL.out, hF]; rfl
          rw [hV] at HB5
          obtain ⟨E, hE⟩ : ∃ E, (encB k D).length = E := ⟨_, rfl⟩
          obtain ⟨P, hPl⟩ : ∃ P, (outM l).length = P := ⟨_, rfl⟩
          obtain ⟨G, hG⟩ : ∃ G, P + E = G := ⟨_, rfl⟩
          have hE2 : E ≤ d + 8 := by rw [← hE, encB_len, HDL.out]; split <;> omega
          rw [hE] at HB5
          rw [hPl] at HO5 hp3
          have hfs := HFS.out
          have hft := HFT.out
          have hGb : G ≤ 22000 := by omega
          have hEb : E ≤ 22000 := by omega
          have hPb : P ≤ 22000 := by omega
          have hGp : (G : Int) ≤ fewN L (i + 1) + 8 * ((i + 1 : Nat) : Int) := by omega
          have hll : l.length ≤ 200 := by omega
          have HKK : Hid (okM (k, D)) := ⟨by show k < 256; omega, fun e => List.eq_nil_of_length_eq_zero (by show D.length = 0; rw [HDL.out]; exact k2 (by rw [show k = 0 from e]; rfl)), by show D.length ≤ 65536; rw [HDL.out]; exact k3, by have := (HDB.out w (Ext.refl w)).2.1; exact this⟩
          have s1 : IntKind.i64.wrap ((P : Int) + (E : Int)) = (G : Int) := by rw [IntKind.wrap_i64]; omega
          have HGG := Lib.hid hG
          have HEL := Lib.hid hE
          have HPL := Lib.hid hPl
          have HPB := Lib.hid (Plain.of_owns HB5.out)
          have HBE : Hid (∀ x ∈ encB k D, x < 256) := encB_lt HKK.out.1 HKK.out.2.2.2 HKK.out.2.2.1
          obtain ⟨ba, bc, rfl⟩ := uform HB5.out
          obtain ⟨oa, oc, rfl⟩ := uform HO5.out
          obtain ⟨ia, ic, rfl⟩ := uform HI5.out
          obtain ⟨ua, uc, rfl⟩ := uform HU5.out
          have hB5 := HE5.out.size
          have hp2' := hp2
          clear hF hV hE hPl hG hE2 hfs hft k0 k1 k2 k3 HEB hp3 HX5
          go_wp2_with fail
          go_region_law (refine step_push_un (by rfl) _ _ 52 (by rfl) Tryd.underlying52 _ l.length _ (k : Int) (P : Int) (G : Int) (.slice ra d rc) rfl (by rfl) HU5.out (by rfl) hB5 (by omega) ?_; intro g8 cp8 w8 h1 h2; have HO8 := Lib.hid (own_other HO5.out HU5.out (by decide) h2); have HI8 := Lib.hid (own_other HI5.out HU5.out (by decide) h2); have HB8 := Lib.hid (own_other HB5.out HU5.out (by decide) h2); have HBB : Hid (Bys w8 (.slice ba E bc) (encB k D)) := Bys.of_owns2 HB8.out HEL.out HBE.out (by omega); have HU8 := Lib.hid h1; have HE8 := Lib.hid (own_ext2 HU5.out h2 HE5.out (Nat.le_refl _)); clear h1 h2)
          all_goals go_wp2_with (first
            | (at_builtin; refine app_any rfl _ _ 22 rfl Tryd.underlying22 _ P (outM l) (encB k D) _ rfl HO8.out rfl HBB.out HPB.out HE8.out.size (by rw [HEL.out]; omega) ?_; intro v9 w9 h1 g9; rw [HEL.out, HGG.out] at h1; obtain ⟨na, nc, rfl⟩ := uform h1; have HO9 := Lib.hid h1; have HI9 := Lib.hid (own_other HI8.out HO8.out (by decide) g9); have HU9 := Lib.hid (own_other HU8.out HO8.out (by decide) g9); have HE9 := Lib.hid (own_ext2 HO8.out g9 HE8.out (Nat.le_refl _)); clear h1 g9)
            | (at_builtin; refine push_i rfl _ _ 59 rfl Tryd.underlying59 _ l.length _ (G : Int) rfl HI9.out (by show Value.slice (some ⟨_, 0, none⟩) 1 1 = _; simp) HE9.out.size (by omega) ?_; intro v10 w10 h1 g10; have HI10 := Lib.hid h1; have HO10 := Lib.hid (own_other HO9.out HI9.out (by decide) g10); have HU10 := Lib.hid (own_other HU9.out HI9.out (by decide) g10); have HE10 := Lib.hid (own_ext2 HI9.out g10 HE9.out (Nat.le_refl _)); clear h1 g10))
          all_goals have HRL : Hid (MdRel w w10 L _ _ _ (i + 1) (l ++ [(k, D)]) (fun q => if q = l.length then .slice ra d rc else S q)) := made_step hp1 hp2 HKK.out HEL.out HPL.out HGG.out hGp HO10.out HI10.out HU10.out HD.out (HDB.out w (Ext.refl w)) HE10.out
          all_goals go_roundw
          all_goals first
            | exact ⟨i + 1, l ++ [(k, D)], _, ⟨by omega, by omega⟩, by go_num, HRL.out⟩
            | (simp [intOf]; omega)
      · have x2 : (i : Int) < (n : Int) := by omega
        have x3 : ¬ (i : Int) < (m : Int) := by omega
        obtain ⟨hp1, hp2, hp3⟩ := HP.out
        have hfm := fewN_mono L hi2
        have hf2 := HF2.out
        have hPb : (outM l).length ≤ 30000 := by omega
        have hlb : l.length ≤ 200 := by omega
        obtain ⟨oa, oc, rfl⟩ := uform HO.out
        obtain ⟨ia, ic, rfl⟩ := uform HI.out
        obtain ⟨ua, uc, rfl⟩ := uform HU.out
        have HFN : Hid (MdPost w (.returned (.tuple #[.slice oa (outM l).length oc, .slice ia l.length ic, .slice ua l.length uc])) wr) := by
          refine ⟨l, _, _, _, rfl, hp1, ⟨hPb, hlb⟩, Bys.of_owns HO.out (out_lt hp1) (by omega), ⟨?_, by rw [ends_len]; omega⟩, ?_, HE.out⟩
          · rw [ends_len]
            exact Row.of_owns HI.out
          · have e6 : l.length = (lay 0 l).length := (lay_len 0 l).symm
            have h1 := HU.out
            have h2 := HD.out
            rw [e6] at h1 h2 ⊢
            exact Uns.of_cells h1 (by rw [← e6]; omega) (fun q hq => (h2 q hq).ext HE.out)
        clear hp1 hp2 hp3 hfm hf2 hPb hlb
        revert HFN HO
        generalize (outM l).length = P
        intro HO HFN
        go_wp2
        go_ret3
        exact HFN.out
    · have x2 : ¬ (i : Int) < (n : Int) := by omega
      obtain ⟨hp1, hp2, hp3⟩ := HP.out
      have hfm := fewN_mono L hi2
      have hf2 := HF2.out
      have hPb : (outM l).length ≤ 30000 := by omega
      have hlb : l.length ≤ 200 := by omega
      obtain ⟨oa, oc, rfl⟩ := uform HO.out
      obtain ⟨ia, ic, rfl⟩ := uform HI.out
      obtain ⟨ua, uc, rfl⟩ := uform HU.out
      have HFN : Hid (MdPost w (.returned (.tuple #[.slice oa (outM l).length oc, .slice ia l.length ic, .slice ua l.length uc])) wr) := by
        refine ⟨l, _, _, _, rfl, hp1, ⟨hPb, hlb⟩, Bys.of_owns HO.out (out_lt hp1) (by omega), ⟨?_, by rw [ends_len]; omega⟩, ?_, HE.out⟩
        · rw [ends_len]
          exact Row.of_owns HI.out
        · have e6 : l.length = (lay 0 l).length := (lay_len 0 l).symm
          have h1 := HU.out
          have h2 := HD.out
          rw [e6] at h1 h2 ⊢
          exact Uns.of_cells h1 (by rw [← e6]; omega) (fun q hq => (h2 q hq).ext HE.out)
      clear hp1 hp2 hp3 hfm hf2 hPb hlb
      revert HFN HO
      generalize (outM l).length = P
      intro HO HFN
      go_wp2
      go_ret3
      exact HFN.out
end Go.Proofs.YtkjllhphpkmaiaaDoor
