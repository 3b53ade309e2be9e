/- kinlaw21.DecodeSkips: the walk. -/
import Derived.Test.YtcekpngkfldgkaaGreatDoorLDeQ
import Derived.Deep.RegionHeld3
namespace Go.Proofs.YtcekpngkfldgkaaGreatDoor
set_option linter.unusedVariables false
set_option linter.unusedSimpArgs false
open Go.RowKit Go.Extern.Stop Go.Stop Go.Extern

theorem dfr_skip {f : Fr} {W H : Int} (h1 : newOk W H 128 = true) (h2 : f.1 = W ∧ f.2.1 = H ∧ may W H f.2.2) : dfrV 3 [] f.1 f.2.1 f.2.2 W H = (none, f) := by
  obtain ⟨fw, fh, fp⟩ := f
  obtain ⟨rfl, rfl, h5⟩ := h2
  unfold dfrV
  rw [if_neg (by rw [h1]; simp), if_neg (by decide), if_neg (fun h => h.2 ⟨h5, rfl, rfl⟩), if_neg (by decide), if_pos rfl]
theorem dfr_flat' {PW PH W H : Int} {ps : List Int} (h1 : newOk W H 128 = true) : dfrV 4 [] PW PH ps W H = (none, (W, H, greyL W H)) := by
  unfold dfrV
  rw [if_neg (by rw [h1]; simp), if_neg (by decide), if_neg (by rintro ⟨h | h, -⟩ <;> omega), if_pos rfl]
theorem run_skips {W H : Int} {f : Fr} (h1 : newOk W H 128 = true) (h2 : f.1 = W ∧ f.2.1 = H ∧ may W H f.2.2) : ∀ (m i : Nat) (acc : List Fr), dfsRun W H (List.replicate m (3, []) ++ [(4, [])]) i f acc = (none, acc ++ List.replicate m f ++ [(W, H, greyL W H)])
  | 0, i, acc => by
    show dfsRun W H [(4, [])] i f acc = _
    rw [dfsRun_ok (dfr_flat' h1)]
    simp [dfsRun]
  | m + 1, i, acc => by
    rw [List.replicate_succ, List.cons_append, dfsRun_ok (dfr_skip h1 h2), run_skips h1 h2 m (i + 1) (acc ++ [f])]
    rw [List.replicate_succ, List.append_assoc acc [f]]
    rfl
/-- the coded frames of the law -/
def skL (k : Int) (bs : List Nat) (m : Nat) : List Cd := (k, bs) :: (List.replicate m (3, []) ++ [(4, [])])
theorem skL_len (k : Int) (bs : List Nat) (m : Nat) : (skL k bs m).length = m + 2 := by
  unfold skL
  simp
theorem dfs_long {k : Int} {bs : List Nat} {m : Nat} {W H : Int} (h : 16 < m + 2) : dfsV (skL k bs m) W H = (long5, []) := by
  unfold dfsV
  rw [skL_len, if_pos h]
theorem dfs_bad {k : Int} {bs : List Nat} {m : Nat} {W H : Int} (h : ¬ 16 < m + 2) {e : List (ByteArray × Int) × Int} {f : Fr} (hr : dfrV k bs 0 0 [] W H = (some e, f)) : dfsV (skL k bs m) W H = (some ((frsS, 0) :: e.1, e.2), []) := by
  unfold dfsV
  rw [skL_len, if_neg h]
  unfold skL
  exact dfsRun_bad hr
theorem dfs_good {k : Int} {bs : List Nat} {m : Nat} {W H : Int} (h : ¬ 16 < m + 2) {f : Fr} (hr : dfrV k bs 0 0 [] W H = (none, f)) : dfsV (skL k bs m) W H = (none, List.replicate (m + 1) f ++ [(W, H, greyL W H)]) := by
  obtain ⟨h1, h2⟩ := dfr_good hr
  unfold dfsV
  rw [skL_len, if_neg h]
  unfold skL
  rw [dfsRun_ok hr, run_skips h1 h2]
  rfl
/-- coded frames with the values of their data, as cells -/
def cdC (Z : List (Cd × Value)) : List Value := Z.flatMap fun z => [.int .i64 z.1.1, z.2]
theorem cdC_snoc (Z : List (Cd × Value)) (z : Cd × Value) : cdC (Z ++ [z]) = cdC Z ++ [.int .i64 z.1.1, z.2] := by
  unfold cdC
  rw [List.flatMap_append]
  rfl
theorem cdC_get : ∀ (Z : List (Cd × Value)) (q : Nat) (z : Cd × Value), Z[q]? = some z → (cdC Z)[q * 2]? = some (.int .i64 z.1.1) ∧ (cdC Z)[q * 2 + 1]? = some z.2
  | [], q, z, h => by simp at h
  | y :: Z, 0, z, h => by
    simp only [List.getElem?_cons_zero, Option.some.injEq] at h
    subst h
    exact ⟨rfl, rfl⟩
  | y :: Z, q + 1, z, h => by
    obtain ⟨h1, h2⟩ := cdC_get Z q z (by simpa using h)
    have e : cdC (y :: Z) = .int .i64 y.1.1 :: y.2 :: cdC Z := rfl
    rw [e, show (q + 1) * 2 = q * 2 + 1 + 1 by omega]
    exact ⟨h1, h2⟩
theorem cds_own {w : World} {B : Nat} {v : Value} {Z : List (Cd × Value)} (h : w.ownsRow B 63 2 v Z.length (cdC Z)) (hz : ∀ z ∈ Z, (∃ a n c, z.2 = .slice a n c) ∧ Row w z.2 z.1.2.length (byV z.1.2) ∧ ∀ x ∈ z.1.2, x < 256) : Cds w v (Z.map Prod.fst) := by
  obtain ⟨hl, h1⟩ := h
  rcases h1 with ⟨e, h0⟩ | ⟨g, cap, cur, e, hb, hg, h1, h2, hs, ht⟩
  · have hz0 : Z = [] := List.eq_nil_of_length_eq_zero h0
    subst hz0 e
    exact Cds.nil w
  · subst e
    refine ⟨some ⟨g, 0, none⟩, cap, by rw [List.length_map], ⟨by rw [List.length_map]; exact h1, h2⟩, fun _ => ⟨g, 0, rfl, fun q f hq => ?_⟩⟩
    rw [List.getElem?_map] at hq
    obtain ⟨z, hz1, rfl⟩ := Option.map_eq_some_iff.1 hq
    obtain ⟨c0, c1⟩ := cdC_get Z q z hz1
    obtain ⟨⟨ra, rn, rc, e2⟩, hr, hby⟩ := hz z (List.mem_of_getElem? hz1)
    rw [e2] at hr c1
    have cell : ∀ j u, (cdC Z)[j]? = some u → w.cell? ⟨g, 0 + j, none⟩ = some u := fun j u hj => by
      have hj2 : cur.toList[j]? = some u := by
        have h9 : (cur.toList.take (Z.length * 2))[j]? = some u := by rw [ht]; exact hj
        rw [List.getElem?_take] at h9
        split at h9
        · exact h9
        · cases h9
      have h8 : cur[j]? = some u := by simpa using hj2
      simp only [World.cell?, Nat.zero_add, hg]
      simpa using h8
    exact ⟨ra, rn, rc, cell _ _ c0, cell _ _ c1, hr, hby⟩
theorem infoCd : (Tryz.prog.info? 63).map (fun i => (i.zero, i.size, i.bytes)) = some (some (.agg #[.int .i64 0, .slice none 0 0]), 2, 32) := by kernel_rfl
theorem push_cd {ops : Array Oper} {rest : List Oper} {o : Oper} {a : Act} {Q : Exit → Act → World → Prop} {Wd : World} {base : Nat} (hgd : o.guard = none) (s y : Operand) (t : TypeId)
    (ho : o.op = .call { callee := .builtin .append, args := #[s, y], argTypes := #[t, t] }) (ht : Tryz.prog.underlying t = some (.slice 63))
    (v : Value) (n : Nat) (xs : List Value) (k : Int) (su : Value) (hsu : su.oneCell' = true) (hs : a.eval s = v) (hown : Wd.ownsRow base 63 2 v n xs) (hx : a.eval y = .slice (some ⟨Wd.heap.size, 0, none⟩) 1 1) (hb : base ≤ Wd.heap.size) (hn : n ≤ 1000000)
    (h : ∀ g cap w', w'.ownsRow base 63 2 (.slice (some ⟨g, 0, none⟩) (n + 1) cap) (n + 1) (xs ++ [.int .i64 k, su]) → Below base Wd w' → wpList Tryz.prog ops Q rest (a.put o.dst (.slice (some ⟨g, 0, none⟩) (n + 1) cap)) w') :
    wpList Tryz.prog ops Q (o :: rest) a (Wd.alloc (.cells #[.int .i64 k, su] 63)) := by
  obtain ⟨i0, hi, hz0, hz1, hz2⟩ := info_parts infoCd
  refine wpList_append_own_at _ hgd s y t ho base 63 i0 _ 2 32 ht hi hz0 hz1 hz2 rfl (by decide) v n xs hs (hown.alloc _) ⟨Wd.heap.size, 0, none⟩ 1 1 [.int .i64 k, su] hx rfl (World.news_of_block (cs := #[.int .i64 k, su]) (t := 63) (fr := (0, 0)) (heap_alloc_new Wd _)) ?_ (by unfold maxLen; omega) (by omega) (by simp; omega) ?_
  · intro x hx
    simp only [List.mem_cons, List.not_mem_nil, or_false] at hx
    rcases hx with rfl | rfl
    · rfl
    · exact hsu
  intro v' w' h1 h2 h3 h4
  obtain ⟨gg, cap, rfl⟩ : ∃ gg cap, v' = .slice (some ⟨gg, 0, none⟩) (n + 1) cap := by
    rcases h1.2 with ⟨-, h0⟩ | ⟨gg, cap, cur, e, -⟩
    · omega
    · exact ⟨gg, cap, e⟩
  refine h gg cap w' h1 ?_
  refine Below.grown (Below.refl base Wd) ⟨h2.os, h2.tape, h2.output, Nat.le_trans (by simp) h2.size, fun k hk hne => ?_⟩ hb (fun k hk => (hown.lt k hk).1)
  exact (h2.block k (by simp; omega) hne).trans (Below.heap_alloc Wd _ k hk)
set_option maxRecDepth 20000 in
set_option maxHeartbeats 16000000 in
theorem skips_law (k : Int) (bs : List Nat) (N W H : Int) (ca : Option Addr) (cn cc : Nat) (w : World) (hg : EtIs w) (hc : Row w (.slice ca cn cc) bs.length (byV bs)) (hb : ∀ x ∈ bs, x < 256) :
    Calls Tryz.prog 8 #[.agg #[.int .i64 k, .slice ca cn cc], .int .i64 N, .int .i64 W, .int .i64 H] w fun e w' => e = .returned (.bool true) ∧ Ext w w' := by
  have HET := Lib.hid hg
  have HC := Lib.hid hc
  have HB := Lib.hid hb
  have hcn : cn = bs.length := by
    obtain ⟨a', c', e⟩ := hc.form
    simp only [Value.slice.injEq] at e
    exact e.2.1
  have HCN := Lib.hid hcn
  have A0 := BoxIs.new w #[.int .i64 k, .slice ca cn cc] 63
  have E0 := (Ext.refl w).alloc (.cells #[.int .i64 k, .slice ca cn cc] 63)
  obtain ⟨u, hu⟩ : ∃ z, w.alloc (.cells #[.int .i64 k, .slice ca cn cc] 63) = z := ⟨_, rfl⟩
  rw [hu] at A0 E0
  have HU := Lib.hid hu
  clear hg hc hb hu hcn
  go_enter Tryz.func8, Tryz.ntmps8
  go_wp2_with fail
  rw [HU.out]
  refine (first21_any _ (HET.out.ext E0)).mono ?_; rintro e w1 ⟨rfl, hx1⟩
  have HA0 := Lib.hid (A0.ext hx1)
  have HE1 := Lib.hid (E0.trans hx1)
  clear A0 E0 hx1 HU
  have c0 := HA0.out.cell (i := 0) (v := .int .i64 k) rfl
  have c1 := HA0.out.cell (i := 1) (v := .slice ca cn cc) rfl
  by_cases hout : 20000 < cn ∨ N < 0 ∨ 20 < N
  · have t0 : ((20000 : Int) < (cn : Int)) ∨ ¬ ((20000 : Int) < (cn : Int)) := Classical.em _
    rcases t0 with t0 | t0
    · go_wp2_with fail
      refine (first21_any _ (HET.out.ext HE1.out)).mono ?_; rintro e w5 ⟨rfl, hx5⟩
      have E5 := HE1.out.trans hx5
      clear hx5
      go_wp2
      go_ret
      exact ⟨rfl, E5⟩
    · by_cases t1 : N < 0
      · go_wp2_with fail
        refine (first21_any _ (HET.out.ext HE1.out)).mono ?_; rintro e w5 ⟨rfl, hx5⟩
        have E5 := HE1.out.trans hx5
        clear hx5
        go_wp2
        go_ret
        exact ⟨rfl, E5⟩
      · have t2 : 20 < N := by omega
        go_wp2_with fail
        refine (first21_any _ (HET.out.ext HE1.out)).mono ?_; rintro e w5 ⟨rfl, hx5⟩
        have E5 := HE1.out.trans hx5
        clear hx5
        go_wp2
        go_ret
        exact ⟨rfl, E5⟩
  · obtain ⟨m, rfl⟩ : ∃ m : Nat, N = (m : Int) := ⟨N.toNat, by omega⟩
    have t0 : ¬ (20000 : Int) < (cn : Int) := by omega
    have t1 : ¬ (m : Int) < 0 := by omega
    have t2 : ¬ (20 : Int) < (m : Int) := by omega
    have hm20 : m ≤ 20 := by omega
    have hbl : bs.length ≤ 20000 := by have := HCN.out; omega
    clear hout
    have O1 := World.ownsRow_lit (e := 63) (base := w1.heap.size) (size := 2) w1 #[Value.int .i64 k, .slice ca cn cc] 1 (Nat.le_refl _) (by unfold maxLen; omega) (by simp)
    have X1 := (Ext.refl w1).alloc (.cells #[.int .i64 k, .slice ca cn cc] 63)
    have HO0 : Hid ((w1.alloc (.cells #[.int .i64 k, .slice ca cn cc] 63)).ownsRow w1.heap.size 63 2 (.slice (some ⟨w1.heap.size, 0, none⟩) 1 1) (0 + 1) (cdC (((k, bs), .slice ca cn cc) :: List.replicate 0 ((3, []), .slice none 0 0)))) := O1
    obtain ⟨w2, hw2⟩ : ∃ z, w1.alloc (.cells #[.int .i64 k, .slice ca cn cc] 63) = z := ⟨_, rfl⟩
    rw [hw2] at HO0 X1
    have HW2 := Lib.hid hw2
    clear O1 hw2
    go_wp2_with fail
    rw [HW2.out]
    go_loopw [9, 10] (fun lv iv wr => ∃ i : Nat, i ≤ m ∧ iv = .int .i64 (i : Int) ∧ Hid (wr.ownsRow w1.heap.size 63 2 lv (i + 1) (cdC (((k, bs), .slice ca cn cc) :: List.replicate i ((3, []), .slice none 0 0)))) ∧ Ext w1 wr) (fun _ iv _ => m - (intOf iv).toNat)
    case atStart => exact ⟨0, Nat.zero_le _, rfl, HO0, X1⟩
    case round =>
      clear HO0 X1 c0 c1
      obtain ⟨i, hi, rfl, HO, hE⟩ := hrel
      have hsz := hE.size
      by_cases him : i < m
      · have hi1 : i + 1 ≤ 1000000 := by omega
        have HS : Hid (cdC (((k, bs), .slice ca cn cc) :: List.replicate i ((3, []), .slice none 0 0)) ++ [.int .i64 3, .slice none 0 0] = cdC (((k, bs), Value.slice ca cn cc) :: List.replicate (i + 1) ((3, []), Value.slice none 0 0))) := by
          show _ = _
          rw [List.replicate_succ', ← List.cons_append, cdC_snoc]
        go_wp2_with (at_builtin; refine push_cd rfl _ _ 51 rfl Tryz.underlying51 _ (i + 1) _ 3 (.slice none 0 0) rfl rfl HO.out (by show Value.slice (some ⟨_, 0, none⟩) 1 1 = _; simp) hsz hi1 ?_; intro g7 cap7 w7 h7 hx7; have H7 := Lib.hid h7; have E7 : Ext w1 w7 := hE.of_below hx7 (Nat.le_refl _); clear h7 hx7)
        have H8 : Hid (w7.ownsRow w1.heap.size 63 2 (.slice (some ⟨g7, 0, none⟩) (i + 1 + 1) cap7) (i + 1 + 1) (cdC (((k, bs), .slice ca cn cc) :: List.replicate (i + 1) ((3, []), .slice none 0 0)))) := by
          show World.ownsRow _ _ _ _ _ _ _
          rw [← HS.out]
          exact H7.out
        clear H7 HS
        go_roundw
        case rel => exact ⟨i + 1, by omega, by go_num, H8, E7⟩
        case measure => simp [intOf]; omega
      · obtain rfl : i = m := by omega
        have hi1 : i + 1 ≤ 1000000 := by omega
        have tim : ¬ (i : Int) < (i : Int) := by omega
        go_wp2_with (at_builtin; refine push_cd rfl _ _ 51 rfl Tryz.underlying51 _ (i + 1) _ 4 (.slice none 0 0) rfl rfl HO.out (by show Value.slice (some ⟨_, 0, none⟩) 1 1 = _; simp) hsz hi1 ?_; intro g7 cap7 w7 h7 hx7; have H7 := Lib.hid h7; have E7 : Ext w1 w7 := hE.of_below hx7 (Nat.le_refl _); clear h7 hx7)
        obtain ⟨nn, hnn⟩ : ∃ nn, i + 1 + 1 = nn := ⟨_, rfl⟩
        have HZ : Hid (w7.ownsRow w1.heap.size 63 2 (.slice (some ⟨g7, 0, none⟩) nn cap7) (((k, bs), Value.slice ca cn cc) :: (List.replicate i ((3, []), Value.slice none 0 0) ++ [((4, []), Value.slice none 0 0)])).length (cdC (((k, bs), Value.slice ca cn cc) :: (List.replicate i ((3, []), Value.slice none 0 0) ++ [((4, []), Value.slice none 0 0)])))) := by
          show World.ownsRow _ _ _ _ _ _ _
          rw [show (((k, bs), Value.slice ca cn cc) :: (List.replicate i (((3 : Int), ([] : List Nat)), Value.slice none 0 0) ++ [((4, []), Value.slice none 0 0)])).length = i + 1 + 1 by simp, ← List.cons_append, cdC_snoc, ← hnn]
          exact H7.out
        have HCD : Hid (Cds w7 (.slice (some ⟨g7, 0, none⟩) nn cap7) (skL k bs i)) := by
          have h9 := cds_own HZ.out (by
            intro z hz
            rcases List.mem_cons.1 hz with rfl | hz
            · exact ⟨⟨_, _, _, rfl⟩, HC.out.ext (HE1.out.trans E7), HB.out⟩
            · rcases List.mem_append.1 hz with hz | hz
              · rw [List.eq_of_mem_replicate hz]
                exact ⟨⟨_, _, _, rfl⟩, Row.nil w7, by simp⟩
              · rw [List.mem_singleton.1 hz]
                exact ⟨⟨_, _, _, rfl⟩, Row.nil w7, by simp⟩)
          rw [show (((k, bs), Value.slice ca cn cc) :: (List.replicate i (((3 : Int), ([] : List Nat)), Value.slice none 0 0) ++ [((4, []), Value.slice none 0 0)])).map Prod.fst = skL k bs i by simp [skL]] at h9
          exact h9
        have UFS := Lib.hid (dframes_any (skL k bs i) (.slice (some ⟨g7, 0, none⟩) nn cap7) W H w7 HCD.out (by
          intro q c hq
          have hmem := List.mem_of_getElem? hq
          unfold skL at hmem
          rcases List.mem_cons.1 hmem with rfl | hmem
          · exact Nat.le_trans hbl (by decide)
          · rcases List.mem_append.1 hmem with hmem | hmem
            · rw [List.eq_of_mem_replicate hmem]; exact Nat.zero_le _
            · rw [List.mem_singleton.1 hmem]; exact Nat.zero_le _) (by rw [skL_len]; omega))
        have HBY : Hid (Bys w (.slice ca cn cc) bs) := ⟨HC.out, HB.out, by omega⟩
        have UF := Lib.hid (fun W' (kx : Ext w W') => dframe_any k bs 0 0 [] W H ca none cn cc 0 0 W' (HBY.out.ext kx) (by omega) (Ints.nil W'))
        have hni : (nn : Int) = (i : Int) + 2 := by omega
        rw [hnn]
        have HNN := Lib.hid hni
        have HE7 := Lib.hid (HE1.out.trans E7)
        have HA7 := Lib.hid (HA0.out.ext E7)
        clear hnn H7 HZ HCD HBY E7 HA0 HE1 HW2 HO hE hsz hi1 tim hi him hni
        obtain ⟨T, hT⟩ : ∃ T, dfsV (skL k bs i) W H = T := ⟨_, rfl⟩
        rw [hT] at UFS
        have HT := Lib.hid hT
        clear hT
        go_wp2_with fail
        refine UFS.out.mono ?_; rintro e w9 ⟨v9, x9, rfl, hx9, ⟨hf9, -⟩, he9⟩
        have HE9 := Lib.hid (HE7.out.trans hx9)
        have HA9 := Lib.hid (HA7.out.ext hx9)
        clear UFS hx9 HE7 HA7
        by_cases h16 : 16 < i + 2
        · have hT2 := HT.out
          rw [dfs_long h16] at hT2
          subst hT2
          obtain ⟨va, vc, hv⟩ := hf9.form
          obtain rfl : v9 = .slice va 0 vc := hv
          obtain rfl : x9 = .iface 40 (.int .i64 5) := he9.1
          have t16 : (16 : Int) < (nn : Int) := by have := HNN.out; omega
          clear hf9 HT UF h16
          go_wp2_with fail
          refine (first21_any _ (HET.out.ext HE9.out)).mono ?_; rintro e wa ⟨rfl, hxa⟩
          have HEa := Lib.hid (HE9.out.trans hxa)
          clear hxa HE9
          go_wp2_with fail
          refine (fail_any 5 _).mono ?_; rintro e wb ⟨rfl, hxb⟩
          have HEb := Lib.hid (HEa.out.trans hxb)
          clear hxb HEa
          go_wp2_with fail
          refine (same_fall (some ([], 5)) _ _ _ _ (HET.out.ext HEb.out) (ErrIs.code (by decide)) (RErrIs.code (by decide))).mono ?_; rintro e wc ⟨rfl, hxc⟩
          have Ec := HEb.out.trans hxc
          clear hxc HEb
          go_wp2
          go_ret
          exact ⟨rfl, Ec⟩
        · have t16 : ¬ (16 : Int) < (nn : Int) := by have := HNN.out; omega
          have c0 := HA9.out.cell (i := 0) (v := .int .i64 k) rfl
          have c1 := HA9.out.cell (i := 1) (v := .slice ca cn cc) rfl
          obtain ⟨⟨rf, f⟩, hr⟩ : ∃ r, dfrV k bs 0 0 [] W H = r := ⟨_, rfl⟩
          rw [hr] at UF
          have HR := Lib.hid hr
          have HF9 := Lib.hid hf9
          have H16 := Lib.hid h16
          clear hr hf9 h16
          go_wp2_with fail
          refine (UF.out _ HE9.out).mono ?_; rintro e wa ⟨fu, fx, X, rfl, hxa, -, ho⟩
          obtain ⟨hia, hea⟩ := ho.get
          obtain ⟨f2, f2h, f2p⟩ := f
          have hia' : Ints wa fu f2p := hia
          obtain ⟨ua, uc, huf⟩ := hia'.form
          obtain ⟨un, hun⟩ : ∃ z : Nat, z = f2p.length := ⟨_, rfl⟩
          obtain rfl : fu = .slice ua un uc := by rw [hun]; exact huf
          have X6 := (Ext.refl wa).alloc (.cells #[.int .i64 f2, .int .i64 f2h, .slice ua un uc] 24)
          have B6 := BoxIs.new wa #[.int .i64 f2, .int .i64 f2h, .slice ua un uc] 24
          have I6 := hia'.ext X6
          have E69 := hxa.trans X6
          obtain ⟨wb, hwb⟩ : ∃ z, wa.alloc (.cells #[.int .i64 f2, .int .i64 f2h, .slice ua un uc] 24) = z := ⟨_, rfl⟩
          rw [hwb] at B6 E69 I6 X6
          have HWB := Lib.hid hwb
          have HB6 := Lib.hid B6
          have HE69 := Lib.hid E69
          have HI6 := Lib.hid I6
          have HX6 := Lib.hid X6
          have HEb := Lib.hid (HE9.out.trans E69)
          clear hwb B6 E69 I6 X6 hia hia' huf hun hxa ho UF c0 c1 HA9
          cases rf with
          | some ee =>
            have hT2 := HT.out
            rw [dfs_bad H16.out HR.out] at hT2
            obtain ⟨xt, xv, rfl⟩ := ErrIs.ne hea
            subst hT2
            obtain ⟨yt, yv, rfl⟩ := ErrIs.ne he9
            obtain ⟨ep, ec⟩ := ee
            have HIa : Hid (IsErr wa ep ec (.iface xt xv)) := hea.1
            have HI9 : Hid (IsErr w9 ((frsS, 0) :: ep) ec (.iface yt yv)) := he9.1
            clear hea he9 HT HR HF9 HI6 HB6
            go_wp2_with fail
            rw [HWB.out]
            refine (first21_any _ (HET.out.ext HEb.out)).mono ?_; rintro e wc ⟨rfl, hxc⟩
            have HXc := Lib.hid hxc
            have HEc := Lib.hid (HEb.out.trans hxc)
            clear hxc HEb HWB
            go_wp2_with fail
            refine (of_err _ ec _ _ (HET.out.ext HEc.out) (HI9.out.ext (HE69.out.trans HXc.out))).mono ?_; rintro e wd ⟨rfl, hxd⟩
            have HXd := Lib.hid (HXc.out.trans hxd)
            have HEd := Lib.hid (HEc.out.trans hxd)
            clear hxd HXc HEc
            go_wp2_with fail
            refine (of_err ep ec _ _ (HET.out.ext HEd.out) (HIa.out.ext (HX6.out.trans HXd.out))).mono ?_; rintro e we ⟨rfl, hxe⟩
            have Ee := HEd.out.trans hxe
            clear hxe HEd HXd
            go_wp2
            go_ret
            exact ⟨rfl, Ee⟩
          | none =>
            have hT2 := HT.out
            rw [dfs_good H16.out HR.out] at hT2
            subst hT2
            obtain rfl : fx = .nilIface := hea
            obtain rfl : x9 = .nilIface := he9
            obtain ⟨va, vc, hv⟩ := HF9.out.form
            have hv2 : v9 = .slice va nn vc := by
              rw [hv]
              congr 1
              show (List.replicate (i + 1) (f2, f2h, f2p) ++ [(W, H, greyL W H)]).length = nn
              have := HNN.out
              simp
              omega
            subst hv2
            have d1 : IntKind.i64.wrap ((i : Int) + 2) = (nn : Int) := by rw [IntKind.wrap_i64]; have := HNN.out; omega
            have HFM := Lib.hid (HF9.out.ext HE69.out)
            have HR9 := HR
            clear hv HT HR HF9 t0 t1 t2
            obtain ⟨LL, hLL⟩ : ∃ z, List.replicate (i + 1) (f2, f2h, f2p) ++ [(W, H, greyL W H)] = z := ⟨_, rfl⟩
            have HLa : Hid (∀ j, j ≤ i → LL[j]? = some (f2, f2h, f2p)) := fun j hj => by
              rw [← hLL, List.getElem?_append_left (by simp; omega), List.getElem?_replicate, if_pos (by omega)]
            have HLb : Hid (LL[i + 1]? = some (W, H, greyL W H)) := by
              show _ = _
              rw [← hLL, List.getElem?_append_right (by simp)]
              simp
            have hFM := HFM.out
            dsimp only at hFM
            rw [hLL] at hFM
            have HFN := Lib.hid hFM
            have hi20 : i ≤ 20 := by omega
            clear hLL hFM HFM
            obtain ⟨g9, o9, rfl⟩ := HFN.out.had (by have := HNN.out; omega)
            have HGW : Hid (decide (within 128 128 (greyL W H)) = true) := decide_eq_true (fun x hx => by
              obtain ⟨j, _, rfl⟩ := rowL_mem hx
              decide)
            have HGB : Hid ((greyL W H).length ≤ 1000000) := by
              have h9 := dfr_good HR9.out
              exact Nat.le_trans (may_len (grey_may h9.1)) (by decide)
            obtain ⟨ii, hii⟩ : ∃ z : Nat, i + 1 = z := ⟨_, rfl⟩
            have dn : IntKind.i64.wrap ((i : Int) + 1) = (ii : Int) := by rw [IntKind.wrap_i64]; omega
            have HLc : Hid (LL[ii]? = some (W, H, greyL W H)) := by show _ = _; rw [← hii]; exact HLb.out
            have HII := Lib.hid hii
            have hin : ii < nn := by have := HNN.out; omega
            have hin2 : (ii : Int) < (nn : Int) := by omega
            clear hii HLb
            clear HR9
            go_wp2_with fail
            rw [HWB.out]
            clear HWB
            go_loopw [15] (fun iv wr => ∃ j : Nat, j ≤ ii ∧ iv = .int .i64 (j : Int) ∧ Ext wb wr) (fun iv _ => ii - (intOf iv).toNat)
            case atStart => exact ⟨0, Nat.zero_le _, rfl, Ext.refl _⟩
            case round =>
              obtain ⟨j, hj, rfl, hE⟩ := hrel
              by_cases hji : j ≤ i
              · have tj : (j : Int) ≤ (i : Int) := by omega
                have tj2 : decide ((j : Int) ≤ (i : Int)) = true := decide_eq_true tj
                obtain ⟨ra, rn, rc, k0, k1, k2, k3⟩ := (HFN.out.ext hE).at (HLa.out j hji)
                dsimp only at k0 k1 k2 k3
                have B7 := HB6.out.ext hE
                have q0 := B7.cell (i := 0) (v := .int .i64 f2) rfl
                have q1 := B7.cell (i := 1) (v := .int .i64 f2h) rfl
                have q2 := B7.cell (i := 2) (v := .slice ua un uc) rfl
                have UE := Lib.hid (fun W' (kx : Ext wr W') => frame_same f2 f2h f2p ra ua rn un rc uc W' ((show Ints wr (.slice ra rn rc) f2p from ⟨k3, HI6.out.2⟩).ext kx) (HI6.out.ext (hE.trans kx)))
                have KS : Hid (∀ W', Ext wr W' → (W'.cell? ⟨g9, o9 + j * 3, none⟩ = some (.int .i64 f2) ∧ W'.cell? ⟨g9, o9 + j * 3 + 1, none⟩ = some (.int .i64 f2h) ∧ W'.cell? ⟨g9, o9 + j * 3 + 2, none⟩ = some (.slice ra rn rc)) ∧ (W'.cell? ⟨wa.heap.size, 0, none⟩ = some (.int .i64 f2) ∧ W'.cell? ⟨wa.heap.size, 1, none⟩ = some (.int .i64 f2h) ∧ W'.cell? ⟨wa.heap.size, 2, none⟩ = some (.slice ua un uc)) ∧ Ext wr W') := fun W' kx => ⟨⟨kx.cell k0, kx.cell k1, kx.cell k2⟩, ⟨kx.cell q0, kx.cell q1, kx.cell q2⟩, kx⟩
                have jn : j < nn := by have := HNN.out; omega
                have jn2 : (j : Int) < (nn : Int) := by omega
                clear k3 B7
                go_wp2_with fail
                go_region_held3 (fun w' => (w'.cell? ⟨g9, o9 + j * 3, none⟩ = some (.int .i64 f2) ∧ w'.cell? ⟨g9, o9 + j * 3 + 1, none⟩ = some (.int .i64 f2h) ∧ w'.cell? ⟨g9, o9 + j * 3 + 2, none⟩ = some (.slice ra rn rc)) ∧ (w'.cell? ⟨wa.heap.size, 0, none⟩ = some (.int .i64 f2) ∧ w'.cell? ⟨wa.heap.size, 1, none⟩ = some (.int .i64 f2h) ∧ w'.cell? ⟨wa.heap.size, 2, none⟩ = some (.slice ua un uc)) ∧ Ext wr w')
                  (first | assumption | (go_split_ands; exact KS.out _ (by first | assumption | exact (Ext.refl _).drew | exact Ext.refl _)))
                  ((go_at_call 16; refine (UE.out _ (show Ext wr _ from (by first | exact (Ext.refl _).drew | exact Ext.refl _ | assumption))).mono ?_; rintro e w7 ⟨rfl, hx7⟩; have hx8 : Ext wr w7 := (show Ext wr _ from (Ext.refl wr).drew).trans hx7; clear hx7))
                have E8 := hE.trans hx8
                clear k0 k1 k2 q0 q1 q2 UE KS hE
                go_wp2
                go_roundw
                case rel => exact ⟨j + 1, by have := HII.out; omega, by go_num, E8⟩
                case measure => have := HII.out; simp [intOf]; omega
              · have hjj : j = ii := by have := HII.out; omega
                subst hjj
                have tj : ¬ (j : Int) ≤ (i : Int) := by have := HII.out; omega
                have tj2 : decide ((j : Int) ≤ (i : Int)) = false := decide_eq_false tj
                have HEr := Lib.hid (HEb.out.trans hE)
                go_wp2_with fail
                refine (first21_any _ (HET.out.ext HEr.out)).mono ?_; rintro e wc ⟨rfl, hxc⟩
                obtain ⟨ra, rn, rc, k0, k1, k2, k3⟩ := (HFN.out.ext (hE.trans hxc)).at HLc.out
                dsimp only at k0 k1 k2 k3
                have HK3 : Hid (Ints wc (.slice ra rn rc) (greyL W H)) := ⟨k3, by have := HGB.out; omega⟩
                have HEc := Lib.hid (HEr.out.trans hxc)
                clear k0 k1 k3 hE hxc HEr
                go_wp2_with fail
                refine (within_any (greyL W H) 128 128 _ _ HK3.out).mono ?_; rintro e wd ⟨rfl, hxd⟩
                rw [HGW.out]
                have Ed := HEc.out.trans hxd
                clear hxd HEc k2
                go_wp2
                go_ret
                exact ⟨rfl, Ed⟩
theorem skips_walk (k : Int) (bs : List Nat) (N W H : Int) (u : Value) (w : World) (hg : EtIs w) (hc : Row w u bs.length (bs.map fun x : Nat => Value.int .u8 (x : Int))) (hb : ∀ x ∈ bs, x < 256) :
    Calls Tryz.prog 8 #[.agg #[.int .i64 k, u], .int .i64 N, .int .i64 W, .int .i64 H] w fun e w' => e = .returned (.bool true) ∧ Ext w w' := by
  obtain ⟨ca, cc, rfl⟩ := hc.form
  exact skips_law k bs N W H ca _ cc w hg hc hb
end Go.Proofs.YtcekpngkfldgkaaGreatDoor
