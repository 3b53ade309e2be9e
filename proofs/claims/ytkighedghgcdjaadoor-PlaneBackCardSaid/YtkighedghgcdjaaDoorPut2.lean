/- plane.Put, a square that may be laid: its contract over this seat's translation. -/
import Derived.Test.YtkighedghgcdjaaDoorPut
namespace Go.Proofs.YtkighedghgcdjaaDoor
set_option linter.unusedVariables false
set_option linter.unusedSimpArgs false
open Go.RowKit Go.Extern.Stop Go.Stop Go.Extern

theorem Ints.capq {w : World} {a : Option Addr} {n cap : Nat} {zs : List Int} (h : Ints w (.slice a n cap) zs) (hn : 0 < n) : n ≤ cap := by
  have hl := h.len
  obtain ⟨g, off, c, e, c1, -⟩ := h.addr (by omega)
  simp only [Value.slice.injEq] at e
  omega
theorem FrHas.other {w : World} {b B : Nat} {W H : Int} {v : Value} (h : FrHas w B W H v) (hne : b ≠ B) (i : Nat) (u : Value) : FrHas (w.setCell ⟨b, i, none⟩ u) B W H v := by
  obtain ⟨⟨h0, h1, h2⟩, f0, f1, f2⟩ := h
  refine ⟨⟨(World.cell?_setCell_other w ⟨b, i, none⟩ ⟨B, 0, none⟩ u (by simp [hne, hne.symm])).trans h0, (World.cell?_setCell_other w ⟨b, i, none⟩ ⟨B, 1, none⟩ u (by simp [hne, hne.symm])).trans h1, (World.cell?_setCell_other w ⟨b, i, none⟩ ⟨B, 2, none⟩ u (by simp [hne, hne.symm])).trans h2⟩, ?_, ?_, ?_⟩
  · simpa using f0
  · simpa using f1
  · simpa using f2
theorem own_cur {w : World} {base g n cap : Nat} {xs : List Value} (h : w.ownsRow base 3 1 (.slice (some ⟨g, 0, none⟩) n cap) n xs) :
    ∃ cur : List Value, w.heap[g]? = some (.cells cur.toArray 3 (0, 0)) ∧ cur.length = cap ∧ cur.take n = xs ∧ base ≤ g ∧ n ≤ cap ∧ cap ≤ maxLen := by
  obtain ⟨hl, h | ⟨g', cap', cur, e, hb, hg, h1, h2, hs, ht⟩⟩ := h
  · cases h.1
  · simp only [Value.slice.injEq, Option.some.injEq, Addr.mk.injEq, and_true, true_and] at e
    obtain ⟨rfl, rfl⟩ := e
    exact ⟨cur.toList, by simpa using hg, by simpa using hs, by simpa using ht, hb, h1, h2⟩
theorem cur_own {w : World} {base g n cap : Nat} {xs cur : List Value} (hg : w.heap[g]? = some (.cells cur.toArray 3 (0, 0))) (hl : cur.length = cap) (ht : cur.take n = xs) (hb : base ≤ g) (h1 : n ≤ cap) (h2 : cap ≤ maxLen) :
    w.ownsRow base 3 1 (.slice (some ⟨g, 0, none⟩) n cap) n xs := by
  have hx : xs.length = n := by rw [← ht, List.length_take]; omega
  exact ⟨by omega, Or.inr ⟨g, cap, cur.toArray, rfl, hb, hg, h1, h2, by simpa using hl, by simpa using ht⟩⟩
theorem take_splice {cur cs : List Value} {n off : Nat} (h : off + cs.length ≤ n) (hc : n ≤ cur.length) : (splice cur off cs).take n = splice (cur.take n) off cs := by
  unfold splice
  apply List.ext_getElem?
  intro i
  rw [List.getElem?_take]
  by_cases hi : i < n
  · rw [if_pos hi]
    by_cases h1 : i < off
    · rw [List.getElem?_append_left (by rw [List.length_take]; omega), List.getElem?_append_left (by rw [List.length_take, List.length_take]; omega), List.getElem?_take, List.getElem?_take, if_pos h1, if_pos h1, List.getElem?_take, if_pos hi]
    · have e1 : (cur.take off).length = off := by rw [List.length_take]; omega
      have e2 : ((cur.take n).take off).length = off := by rw [List.length_take, List.length_take]; omega
      have L : (cur.take off ++ (cs ++ cur.drop (off + cs.length)))[i]? = (cs ++ cur.drop (off + cs.length))[i - off]? := by rw [List.getElem?_append_right (by rw [e1]; omega), e1]
      have R : ((cur.take n).take off ++ (cs ++ (cur.take n).drop (off + cs.length)))[i]? = (cs ++ (cur.take n).drop (off + cs.length))[i - off]? := by rw [List.getElem?_append_right (by rw [e2]; omega), e2]
      rw [L, R]
      by_cases h2 : i - off < cs.length
      · rw [List.getElem?_append_left h2, List.getElem?_append_left h2]
      · have L2 : (cs ++ cur.drop (off + cs.length))[i - off]? = (cur.drop (off + cs.length))[i - off - cs.length]? := List.getElem?_append_right (by omega)
        have R2 : (cs ++ (cur.take n).drop (off + cs.length))[i - off]? = ((cur.take n).drop (off + cs.length))[i - off - cs.length]? := List.getElem?_append_right (by omega)
        rw [L2, R2, List.getElem?_drop, List.getElem?_drop, List.getElem?_take, if_pos (by omega)]
  · rw [if_neg hi, List.getElem?_eq_none]
    simp only [List.length_append, List.length_take, List.length_drop]
    omega
set_option maxHeartbeats 8000000 in
set_option maxRecDepth 20000 in
theorem put_ok (Wn X Y N : Nat) (H : Int) (zs bs : List Int) (a b : Option Addr) (n m cap cb : Nat) (w : World) (h : Ints w (.slice a n cap) zs) (hb : Ints w (.slice b m cb) bs) (hm : may (Wn : Int) H zs) (hN : 1 ≤ N ∧ N ≤ 8) (hX : X + N ≤ Wn) (hY : (Y : Int) + (N : Int) ≤ H) (hl : bs.length = N * N) (hw : within 0 255 bs) :
    Calls Tryd.prog 33 #[.agg #[.int .i64 (Wn : Int), .int .i64 H, .slice a n cap], .int .i64 (X : Int), .int .i64 (Y : Int), .int .i64 (N : Int), .slice b m cb] w
      (OPost w (Wn : Int) H (rowL zs.length (putK Wn X Y N (N * N) (fun i => zs.getD i 0) (fun i => bs.getD i 0))) none) := by
  have M1 := Lib.hid (fun w h => may_any (Wn : Int) H zs a n cap w h)
  have H1 := Lib.hid hm
  have b1 := sideB_true hm.1
  have b2 := sideB_true hm.2.1
  have hml := may_len hm
  have har := may_area hm
  have hzl := hm.2.2.1
  have hnl := h.len
  have hmm := hb.len
  have C1 := Lib.hid (fun w k => clone_own zs (.slice a n cap) w k (by omega) (by omega))
  rw [← hnl] at C1
  obtain ⟨hN1, hN2⟩ := hN
  have hs := Nat.mul_le_mul hN2 hN2
  have hNN : N ≤ N * N := Nat.le_mul_of_pos_left N hN1
  have hm64 : m = N * N := by omega
  obtain ⟨gb, ob, rfl⟩ := hb.had (by omega)
  have hcb : m ≤ cb := hb.capq (by omega)
  have q3 : IntKind.i64.wrap ((N : Int) * (N : Int)) = (m : Int) := by rw [IntKind.wrap_i64, hm64]; push_cast; have := Int.ofNat_le.2 hs; push_cast at this; omega
  have q1 : IntKind.i64.wrap ((Wn : Int) - (N : Int)) = (Wn : Int) - (N : Int) := by rw [IntKind.wrap_i64]; omega
  have q2 : IntKind.i64.wrap (H - (N : Int)) = H - (N : Int) := by rw [IntKind.wrap_i64]; omega
  have HBL := Lib.hid hmm
  have HW := Lib.hid hw
  have HZL : Hid ((n : Int) = (Wn : Int) * H) := by show _ = _; rw [hnl]; exact hzl
  have HNL := Lib.hid hnl
  have HMN := Lib.hid hm64
  have hm2 : m ≤ 64 := by omega
  have hn2 : n ≤ 1024 := by omega
  have hX1 : (X : Int) ≤ (Wn : Int) - (N : Int) := by omega
  have hY1 : (Y : Int) ≤ H - (N : Int) := by omega
  clear hm hw hmm hnl hzl hl har hml hs hm64
  have FB0 : FrHas ((w.alloc (.cells #[.int .i64 (Wn : Int), .int .i64 H, .slice a n cap] 24)).alloc (.cells #[.int .i64 0, .int .i64 0, .slice none 0 0] 24)) w.heap.size (Wn : Int) H (.slice a n cap) := (FrHas.new w (Wn : Int) H (.slice a n cap)).ext ((Ext.refl _).alloc _)
  have FR0 : FrHas ((w.alloc (.cells #[.int .i64 (Wn : Int), .int .i64 H, .slice a n cap] 24)).alloc (.cells #[.int .i64 0, .int .i64 0, .slice none 0 0] 24)) (w.heap.size + 1) 0 0 (.slice none 0 0) := by
    have := FrHas.new (w.alloc (.cells #[.int .i64 (Wn : Int), .int .i64 H, .slice a n cap] 24)) 0 0 (.slice none 0 0)
    simpa using this
  have E0 : Ext w ((w.alloc (.cells #[.int .i64 (Wn : Int), .int .i64 H, .slice a n cap] 24)).alloc (.cells #[.int .i64 0, .int .i64 0, .slice none 0 0] 24)) := (by repeat (first | exact Ext.refl _ | assumption | refine Ext.alloc ?_ _ | refine Ext.drew ?_ | refine Ext.drewN ?_ _ | refine Ext.setCell ?_ (by first | exact Nat.le_refl _ | (simp; done) | omega) _ | refine Ext.trans ?_ (by assumption)))
  go_enter Tryd.func33, Tryd.ntmps33
  go_wp2_with fail
  revert FB0 FR0 E0
  generalize (w.alloc (.cells #[.int .i64 (Wn : Int), .int .i64 H, .slice a n cap] 24)).alloc (.cells #[.int .i64 0, .int .i64 0, .slice none 0 0] 24) = w0
  intro FB0 FR0 E0
  refine (M1.out _ (h.ext E0)).mono ?_; rintro e w1 ⟨rfl, hx1⟩
  have HFB := Lib.hid (FB0.ext hx1)
  have HFR := Lib.hid (FR0.ext hx1)
  have E1 : Ext w w1 := E0.trans hx1
  clear FB0 FR0 E0 hx1
  rw [decide_eq_true H1.out]
  obtain ⟨⟨p0, p1, p2⟩, f0, f1, f2⟩ := HFB.out
  go_wp2
  go_loop [65] (fun iv => ∃ k : Nat, k ≤ m ∧ iv = .int .i64 k) (fun iv => m - (intOf iv).toNat)
  case atStart => exact ⟨0, Nat.zero_le _, rfl⟩
  case round =>
    obtain ⟨k, hk, rfl⟩ := hrel
    by_cases hlt : k < m
    · obtain ⟨z, hz⟩ : ∃ z, bs[k]? = some z := ⟨_, List.getElem?_eq_getElem (by rw [← HBL.out]; exact hlt)⟩
      have cz := E1.cell (hb.at hz)
      have hs : smpB z = true := by
        have := HW.out.at hz
        unfold smpB
        simp
        omega
      clear hz
      go_wp2_with (go_at_call 53; refine (smp_any _ _).mono ?_; rintro e w' ⟨rfl, rfl⟩)
      go_round
      case rel => exact ⟨k + 1, by omega, by go_num⟩
      case measure => simp [intOf]; omega
    · have hkm : ¬ (k : Int) < (m : Int) := by omega
      clear hlt
      go_wp2_with fail
      refine (C1.out _ (h.ext E1)).mono ?_; rintro e w2 ⟨g, cg, rfl, ho2, hx2⟩
      have HFB2 := Lib.hid (HFB.out.ext hx2)
      have HFR2 := Lib.hid (HFR.out.ext hx2)
      have hB0 : w.heap.size + 1 < w1.heap.size := Ext.lt HFR.out.1.1
      obtain ⟨cur0, hg0, hl0, ht0, hbg, hncg, hcg⟩ := own_cur ho2
      have E2 : Ext w w2 := E1.trans hx2
      clear p0 p1 p2 f0 f1 f2 HFB HFR hx2 ho2
      obtain ⟨⟨p0, p1, p2⟩, f0, f1, f2⟩ := HFB2.out
      go_wp2_with fail
      have hgB : g ≠ w.heap.size := by omega
      have HBS := Lib.hid (HFB2.out.set (.slice (some ⟨g, 0, none⟩) n cg))
      have HRS := Lib.hid (HFR2.out.other (b := w.heap.size) (by omega) 2 (.slice (some ⟨g, 0, none⟩) n cg))
      have ES : Ext w (w2.setCell ⟨w.heap.size, 2, none⟩ (.slice (some ⟨g, 0, none⟩) n cg)) := E2.setCell (p := ⟨w.heap.size, 2, none⟩) (Nat.le_refl _) _
      have hgS : (w2.setCell ⟨w.heap.size, 2, none⟩ (.slice (some ⟨g, 0, none⟩) n cg)).heap[g]? = some (.cells cur0.toArray 3 (0, 0)) := (Below.heap_setCell _ _ _ _ hgB).trans hg0
      clear p0 p1 p2 f0 f1 f2 HFB2 HFR2 E2 hg0
      revert HBS HRS ES hgS
      generalize w2.setCell ⟨w.heap.size, 2, none⟩ (.slice (some ⟨g, 0, none⟩) n cg) = wS
      intro HBS HRS ES hgS
      have HS0 : Hid (cur0.length = cg ∧ cur0.take n = (rowL n (putK Wn X Y N (0 * N) (fun i => zs.getD i 0) (fun i => bs.getD i 0))).map (Value.int .i64)) := by
        refine ⟨hl0, ?_⟩
        rw [ht0, Nat.zero_mul, HNL.out, rowL_cg (g := fun i => zs.getD i 0) (fun j _ => putK_zero Wn X Y N _ _ j), rowL_getD]
      have HGS := Lib.hid hgS
      clear hl0 ht0 hgS
      go_loopw [80] (fun jv wr => ∃ (j : Nat) (cur : List Value), j ≤ N ∧ jv = .int .i64 j ∧ Hid (wr.heap[g]? = some (.cells cur.toArray 3 (0, 0))) ∧ Hid (cur.length = cg ∧ cur.take n = (rowL n (putK Wn X Y N (j * N) (fun i => zs.getD i 0) (fun i => bs.getD i 0))).map (Value.int .i64)) ∧ Below w1.heap.size wS wr) (fun jv _ => N - (intOf jv).toNat)
      case atStart => exact ⟨0, cur0, Nat.zero_le _, rfl, HGS, HS0, Below.refl _ _⟩
      case round =>
        clear HGS HS0
        obtain ⟨j, cur, hj, rfl, HG, HC, hE⟩ := hrel
        obtain ⟨⟨p0, p1, p2⟩, f0, f1, f2⟩ := HBS.out.under hE (by omega)
        by_cases hjn : j < N
        · obtain ⟨a1, a2, a3⟩ := place_in (x := (X : Int) + ((N : Int) - 1)) (y := (Y : Int) + (j : Int)) b1.2.1 b2.2.1 HZL.out (by omega) (by omega) (by omega) (by omega)
          obtain ⟨Q, hQ⟩ : ∃ Q : Nat, Q = (Y + j) * Wn + X := ⟨_, rfl⟩
          have hQi : ((Y : Int) + (j : Int)) * (Wn : Int) + (X : Int) = (Q : Int) := by rw [hQ]; push_cast; rfl
          have hQn : Q + N ≤ n := by omega
          obtain ⟨L, hL⟩ : ∃ L : Nat, L = j * N := ⟨_, rfl⟩
          have hLi : (j : Int) * (N : Int) = (L : Int) := by rw [hL]; push_cast; rfl
          obtain ⟨U, hU⟩ : ∃ U : Nat, U = L + N := ⟨_, rfl⟩
          have hUi : ((j : Int) + 1) * (N : Int) = (U : Int) := by rw [hU, Int.add_mul, hLi, Int.one_mul]; push_cast; rfl
          have hUm : U ≤ m := by
            have := Nat.mul_le_mul_right N (show j + 1 ≤ N from hjn)
            rw [Nat.succ_mul] at this
            have := HMN.out
            omega
          have d1 : IntKind.i64.wrap ((Y : Int) + (j : Int)) = (Y : Int) + (j : Int) := by rw [IntKind.wrap_i64]; omega
          have d2 : IntKind.i64.wrap (((Y : Int) + (j : Int)) * (Wn : Int)) = ((Y : Int) + (j : Int)) * (Wn : Int) := by rw [IntKind.wrap_i64]; omega
          have d3 : IntKind.i64.wrap (((Y : Int) + (j : Int)) * (Wn : Int) + (X : Int)) = (Q : Int) := by rw [IntKind.wrap_i64]; omega
          have d4 : IntKind.i64.wrap ((j : Int) * (N : Int)) = (L : Int) := by rw [IntKind.wrap_i64]; omega
          have d5 : IntKind.i64.wrap ((j : Int) + 1) = (j : Int) + 1 := by rw [IntKind.wrap_i64]; omega
          have d6 : IntKind.i64.wrap (((j : Int) + 1) * (N : Int)) = (U : Int) := by rw [IntKind.wrap_i64]; omega
          have k1 : (0 : Int) ≤ (Q : Int) ∧ (Q : Int) ≤ (n : Int) := by omega
          have k2 : ¬ cg = Q := by omega
          have k3 : (Q : Int) ≤ (cg : Int) := by omega
          have k4 : ¬ cg - Q = 0 := by omega
          have k5 : (0 : Int) ≤ (L : Int) ∧ (L : Int) ≤ (U : Int) := by omega
          have k6 : (U : Int) ≤ (cb : Int) := by omega
          have k7 : ¬ cb = L := by omega
          have k8 : ¬ cb - L = 0 := by omega
          have HR := Lib.hid (read_row (f := fun t => bs.getD (L + t) 0) (N := N) (hb.ext (ES.of_below hE (by omega))) (show L + N ≤ m by omega) (fun t _ => rfl))
          have HLC : Hid (((rowL N fun t => bs.getD (L + t) 0).map (Value.int .i64)).length = N) := by show _ = _; simp [rowL_length]
          have HFT : Hid (Q + ((rowL N fun t => bs.getD (L + t) 0).map (Value.int .i64)).length ≤ cur.length) := by show _ ≤ _; rw [HLC.out, HC.out.1]; omega
          have HMI : Hid (N = Nat.min (U - L) (n - Q)) := by show _ = _; rw [hU, Nat.add_sub_cancel_left]; exact (Nat.min_eq_left (by omega)).symm
          have HQ := Lib.hid hQ
          have HL := Lib.hid hL
          have hED : Below w1.heap.size wS wr.drew := hE.trans ⟨rfl, rfl, rfl, Nat.le_refl _, fun _ _ => rfl⟩
          clear hQ hQi hL hLi hU hUi a1 a2 a3
          go_wp2
          go_region_law (refine step_copy_splice (by rfl) _ _ 22 22 (by rfl) 3 Tryd.underlying22 infoSz _ _ _ _ _ _ (by rfl) (by rfl) g Q _ 3 HG.out ((rowL N fun t => bs.getD (L + t) 0).map (Value.int .i64)) (by rw [HLC.out]; exact HMI.out) (fun _ => ⟨by first | rfl | (simp [Addr.add]; done) | (simp [Addr.add]; omega), _, rfl, HR.out⟩) HFT.out (ones_row _ _) w1.heap.size wS hED hbg ?_; intro w5 HG5 hE5; rw [HLC.out])
          all_goals
            go_wp2
            go_roundw
            case rel =>
              have HN' : Hid ((splice cur Q ((rowL N fun t => bs.getD (L + t) 0).map (Value.int .i64))).length = cg ∧ (splice cur Q ((rowL N fun t => bs.getD (L + t) 0).map (Value.int .i64))).take n = (rowL n (putK Wn X Y N ((j + 1) * N) (fun i => zs.getD i 0) (fun i => bs.getD i 0))).map (Value.int .i64)) := by
                refine ⟨by rw [length_splice _ _ _ HFT.out]; exact HC.out.1, ?_⟩
                rw [take_splice (by rw [HLC.out]; omega) (by rw [HC.out.1]; omega), HC.out.2, HQ.out, HL.out]
                exact putK_splice hX hjn (by rw [← HQ.out]; exact hQn)
              first
                | exact ⟨j + 1, _, by omega, by go_num, HG5, HN', hE5⟩
                | (refine ⟨?_, ?_⟩; exact ⟨j + 1, _, by omega, by go_num, HG5, HN', hE5⟩; rfl)
                | ((repeat apply Exists.intro); exact ⟨⟨j + 1, _, by omega, by go_num, HG5, HN', hE5⟩, rfl⟩)
            case measure => simp [intOf]; omega
        · have hjN : j = N := by omega
          have HCN : Hid (cur.take n = (rowL n (putK Wn X Y N (N * N) (fun i => zs.getD i 0) (fun i => bs.getD i 0))).map (Value.int .i64)) := by
            have := HC.out.2
            rwa [hjN] at this
          have hjn' : ¬ (j : Int) < (N : Int) := by omega
          obtain ⟨⟨r0, r1, r2⟩, f3, f4, f5⟩ := HRS.out.under hE hB0
          have hown := cur_own HG.out HC.out.1 HCN.out hbg hncg hcg
          have HO9 := Lib.hid (own_mono (row_setCell (row_setCell (row_setCell hown (w.heap.size + 1) 0 hB0 (.int .i64 (Wn : Int))) (w.heap.size + 1) 1 hB0 (.int .i64 H)) (w.heap.size + 1) 2 hB0 (.slice (some ⟨g, 0, none⟩) n cg)) (show w.heap.size ≤ w1.heap.size by omega))
          have EW := ES.of_below hE (show w.heap.size ≤ w1.heap.size by omega)
          clear hown hjN hjn
          go_wp2
          obtain ⟨e0, e1, e2⟩ := fr_cells (Wn : Int) H (.slice (some ⟨g, 0, none⟩) n cg) r0 r1 r2
          exact bodyPost_ret (v := .tuple #[.agg #[.int .i64 (Wn : Int), .int .i64 H, .slice (some ⟨g, 0, none⟩) n cg], .nilIface]) (by simp [results, Tryd.results33, go_sem, e0, e1, e2]) rfl
            ⟨_, _, _, _, rfl, ((EW.setCell (p := ⟨w.heap.size + 1, 0, none⟩) (Nat.le_add_right _ 1) _).setCell (p := ⟨w.heap.size + 1, 1, none⟩) (Nat.le_add_right _ 1) _).setCell (p := ⟨w.heap.size + 1, 2, none⟩) (Nat.le_add_right _ 1) _, by rw [rowL_length]; exact HNL.out, by omega, by rw [← HNL.out]; exact HO9.out, rfl⟩
end Go.Proofs.YtkighedghgcdjaaDoor
