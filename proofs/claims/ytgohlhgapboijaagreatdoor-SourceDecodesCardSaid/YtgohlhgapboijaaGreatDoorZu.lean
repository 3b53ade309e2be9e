/- Contracts of this seat: Sug, Rs1. -/
import Derived.Test.YtgohlhgapboijaaGreatDoorZl
import Derived.Test.YtgohlhgapboijaaGreatDoorZr
import Derived.Deep.RegionHeld3
/- kinlaw15.few of any frames. -/
namespace Go.Proofs.YtgohlhgapboijaaGreatDoor
set_option linter.unusedVariables false
set_option linter.unusedSimpArgs false
open Go.RowKit Go.Extern.Stop Go.Stop Go.Extern

set_option maxRecDepth 20000 in
set_option maxHeartbeats 2000000 in
theorem few15_all (L : List Fr) (v : Value) (w : World) (h : Fms w v L) :
    Calls Tryz.prog 6 #[v] w fun e w' => e = .returned (.bool (pixB L)) ∧ Ext w w' := by
  obtain ⟨a, cap, rfl⟩ := h.form
  obtain ⟨n, hn⟩ : ∃ n, n = L.length := ⟨_, rfl⟩
  have HN := Lib.hid hn
  rw [← hn] at h ⊢
  have AG := Lib.hid h.had
  clear hn
  have r2 := mn2
  go_enter Tryz.func6, Tryz.ntmps6
  go_wp2
  go_loopw [3, 4] (fun sv iv wr => ∃ k : Nat, k ≤ n ∧ k ≤ 40 ∧ iv = .int .i64 k ∧ sv = .int .i64 (pixN L k) ∧ Ext w wr) (fun _ iv _ => n - (intOf iv).toNat)
  case atStart => exact ⟨0, Nat.zero_le _, by omega, rfl, rfl, Ext.refl _⟩
  case round =>
    obtain ⟨k, hk, hk2, rfl, rfl, hE⟩ := hrel
    have b0 := pixN_bound L k
    by_cases hlt : k < n
    · by_cases h40 : k < 40
      · obtain ⟨g, off, rfl⟩ := AG.out (by omega)
        obtain ⟨f, hf⟩ : ∃ f, L[k]? = some f := ⟨_, List.getElem?_eq_getElem (by rw [← HN.out]; exact hlt)⟩
        obtain ⟨ra, rn, rc, c0, c1, c2, c3⟩ := (h.at hf).ext hE
        obtain ⟨ra', rc', e⟩ := c3.form
        simp only [Value.slice.injEq] at e
        obtain ⟨rfl, rfl, rfl⟩ := e
        have HS : Hid (pixN L (k + 1) = pixN L k + min ((f.2.2.length : Nat) : Int) 20001) := by show pixN L k + _ = _; rw [List.getD, hf]; rfl
        have bl : (0 : Int) ≤ (f.2.2.length : Int) := by omega
        clear c3 hf
        revert HS b0 c2 bl
        generalize pixN L k = s
        generalize f.2.2.length = m
        intro b0 c2 HS bl
        have e1 : IntKind.i64.wrap (s + min (m : Int) 20001) = s + min (m : Int) 20001 := by rw [IntKind.wrap_i64]; omega
        go_wp2
        go_roundw
        case rel => exact ⟨k + 1, by omega, by omega, by go_num, by rw [HS.out], hE⟩
        case measure => simp [intOf]; omega
      · have h41 : ¬ n ≤ 40 := by omega
        have HR : Hid (pixB L = false) := by show _ = _; unfold pixB; rw [← HN.out]; simp [h41]
        have k1 : (40 : Int) < (n : Int) := by omega
        clear h41 b0
        go_wp2
        go_ret
        exact ⟨by rw [HR.out]; rfl, hE⟩
    · have h41 : n ≤ 40 := by omega
      have HR : Hid (pixB L = decide (pixN L k ≤ 20000)) := by show _ = _; unfold pixB; rw [← HN.out, show min n 40 = k by omega]; simp [h41]
      have k1 : (n : Int) ≤ 40 := by omega
      revert HR b0
      generalize pixN L k = s
      intro b0 HR
      clear h41
      by_cases hs : s ≤ 20000
      · have t1 : decide (s ≤ 20000) = true := decide_eq_true hs
        go_wp2
        go_ret
        exact ⟨by rw [HR.out, t1]; rfl, hE⟩
      · have t1 : decide (s ≤ 20000) = false := decide_eq_false hs
        go_wp2
        go_ret
        exact ⟨by rw [HR.out, t1]; rfl, hE⟩
theorem pix_small15 {L : List Fr} (h : pixB L = true) : ∀ (q : Nat) (f : Fr), L[q]? = some f → f.2.2.length ≤ 1000000 := fun q f hq => by
  unfold pixB at h
  simp only [Bool.and_eq_true, decide_eq_true_eq] at h
  obtain ⟨h1, h2⟩ := h
  rw [show min L.length 40 = L.length by omega] at h2
  obtain ⟨hlt, -⟩ := List.getElem?_eq_some_iff.1 hq
  have mono : ∀ d, pixN L (q + 1) ≤ pixN L (q + 1 + d) := fun d => by
    induction d with
    | zero => exact Int.le_refl _
    | succ d ih =>
      have e : pixN L (q + 1 + (d + 1)) = pixN L (q + 1 + d) + min (((L.getD (q + 1 + d) (0, 0, [])).2.2.length : Nat) : Int) 20001 := rfl
      omega
  have m1 := mono (L.length - (q + 1))
  rw [show q + 1 + (L.length - (q + 1)) = L.length by omega] at m1
  have m2 : pixN L (q + 1) = pixN L q + min ((f.2.2.length : Nat) : Int) 20001 := by show pixN L q + _ = _; rw [List.getD, hq]; rfl
  have m3 := pixN_bound L q
  omega
theorem few_small {L : List Fr} (h : pixB L = true) : Small L := by
  have h40 : L.length ≤ 40 := by
    unfold pixB at h
    simp only [Bool.and_eq_true, decide_eq_true_eq] at h
    exact h.1
  refine ⟨by omega, fun q => ?_⟩
  by_cases hq : q < L.length
  · exact pix_small15 h q _ (frAt_get hq)
  · unfold frAt
    rw [List.getD, List.getElem?_eq_none (by omega)]
    decide
end Go.Proofs.YtgohlhgapboijaaGreatDoor

/- kinref15.folds, kinref15.least. -/
namespace Go.Proofs.YtgohlhgapboijaaGreatDoor
set_option linter.unusedVariables false
set_option linter.unusedSimpArgs false
open Go.RowKit Go.Extern.Stop Go.Stop Go.Extern

set_option maxHeartbeats 8000000 in
set_option maxRecDepth 100000 in
theorem rfolds_any (W H n : Nat) (zs : List Int) (a : Option Addr) (cap : Nat) (w : World) (h : Ints w (.slice a n cap) zs) (hb : Byt zs) (hW : 8 ≤ W ∧ W ≤ 32) (hH : 8 ≤ H ∧ H ≤ 32) (hn : n = W * H) :
    Calls Tryz.prog 24 #[.agg #[.int .i64 (W : Int), .int .i64 (H : Int), .slice a n cap]] w fun e w' => ∃ v, e = .returned v ∧ Ext w w' ∧ w'.ownsRow (w.heap.size + 1) 3 1 v n ((folds W zs n).map (Value.int .i64)) := by
  obtain ⟨i0, hi, hz0, hz1, hz2⟩ := info_parts infoInt
  have hnl := h.len
  have hWH : W * H ≤ 32 * 32 := Nat.mul_le_mul hW.2 hH.2
  have hn1 : n ≤ 1024 := by omega
  have hn64 : 64 ≤ n := by have : 8 * 8 ≤ W * H := Nat.mul_le_mul hW.1 hH.1; omega
  have UG := Lib.hid (fun (x y A : Nat) (W' : World) (hE : Ext w W') (hA : (y : Int) * (W : Int) = (A : Int)) (hx : (x : Int) < (W : Int)) (hy : y ≤ 32) (hl : A + x ≤ n) => rguess_any (W : Int) x y A n zs a cap W' (h.ext hE) hb (by omega) hA hx hy hl (by omega))
  have HI := Lib.hid h
  have HNL := Lib.hid hnl
  have HN := Lib.hid hn
  have HB := Lib.hid hb
  have E1 := Lib.hid ((Ext.refl w).alloc (.cells #[.int .i64 (W : Int), .int .i64 (H : Int), .slice a n cap] 48))
  have c0 : (w.alloc (.cells #[.int .i64 (W : Int), .int .i64 (H : Int), .slice a n cap] 48)).cell? ⟨w.heap.size, 0, none⟩ = some (.int .i64 (W : Int)) := by simp
  have c1 : (w.alloc (.cells #[.int .i64 (W : Int), .int .i64 (H : Int), .slice a n cap] 48)).cell? ⟨w.heap.size, 1, none⟩ = some (.int .i64 (H : Int)) := by simp
  have c2 : (w.alloc (.cells #[.int .i64 (W : Int), .int .i64 (H : Int), .slice a n cap] 48)).cell? ⟨w.heap.size, 2, none⟩ = some (.slice a n cap) := by simp
  have hs1 : (w.alloc (.cells #[.int .i64 (W : Int), .int .i64 (H : Int), .slice a n cap] 48)).heap.size = w.heap.size + 1 := by simp
  have HS1 := Lib.hid hs1
  obtain ⟨g0, off0, ha0⟩ := h.had (by omega)
  subst ha0
  have hg0 : g0 < w.heap.size := by
    have hp : 0 < zs.length := by omega
    exact Ext.lt (h.at (iget_of_lt hp))
  have mn : IntKind.i64.wrap ((W : Int) * (H : Int)) = (n : Int) := by
    have : (W : Int) * (H : Int) = (n : Int) := by rw [hn]; simp
    rw [this, IntKind.wrap_i64]
    omega
  clear h hb hnl hs1 hWH hn
  go_enter Tryz.func24, Tryz.ntmps24
  revert E1 c0 c1 c2 HS1
  generalize hw1 : w.alloc _ = w1
  intro E1 c0 c1 c2 HS1
  have C0 := Lib.hid c0
  have C1 := Lib.hid c1
  have C2 := Lib.hid c2
  have hs1 := HS1.out
  have HW1S : Hid (w.heap.size + 1 ≤ w1.heap.size) := by show _ ≤ _; omega
  clear c0 c1 c2 hs1
  go_wp2_with fail
  go_loopw [3, 4] (fun rv iv wr => ∃ i : Nat, i ≤ n ∧ iv = .int .i64 (i : Int) ∧ Hid (wr.ownsRow (w.heap.size + 1) 3 1 rv i ((folds W zs i).map (Value.int .i64))) ∧ Hid (Below (w.heap.size + 1) w1 wr)) (fun _ iv _ => n - (intOf iv).toNat)
  case atStart => exact ⟨0, Nat.zero_le _, rfl, World.ownsRow_nil _ _ _ _, Below.refl _ _⟩
  case round =>
    obtain ⟨P, hP, rfl, HP, HM⟩ := hrel
    have d0 := Below.cellv HM.out C0.out (Nat.lt_succ_self _)
    have d1 := Below.cellv HM.out C1.out (Nat.lt_succ_self _)
    have d2 := Below.cellv HM.out C2.out (Nat.lt_succ_self _)
    by_cases hlt : P < n
    · have t1 : (P : Int) < (n : Int) := by omega
      obtain ⟨x, hx⟩ : ∃ x, P % W = x := ⟨_, rfl⟩
      obtain ⟨y, hy⟩ : ∃ y, P / W = y := ⟨_, rfl⟩
      obtain ⟨A, hA0⟩ : ∃ A, y * W = A := ⟨_, rfl⟩
      have hdm : A + x = P := by
        have := Nat.div_add_mod P W
        rw [Nat.mul_comm, hx, hy, hA0] at this
        exact this
      have hxW : x < W := by rw [← hx]; exact Nat.mod_lt _ (by omega)
      have hyH : y ≤ 32 := by
        by_cases hyy : y ≤ 32
        · exact hyy
        · exfalso
          have h1 : 33 * 8 ≤ y * W := Nat.mul_le_mul (by omega) hW.1
          have h2 : 33 * W ≤ y * W := Nat.mul_le_mul_right W (by omega)
          have h3 : n ≤ W * 32 := by rw [HN.out]; exact Nat.mul_le_mul_left W hH.2
          omega
      have hA : (y : Int) * (W : Int) = (A : Int) := by rw [← hA0]; simp
      have i1 : Int.tmod (P : Int) (W : Int) = (x : Int) := by rw [← Int.ofNat_tmod, hx]
      have i2 : (P : Int) % (W : Int) = (x : Int) := by rw [← hx]; simp
      have i3 : Int.tdiv (P : Int) (W : Int) = (y : Int) := by rw [← Int.ofNat_tdiv, hy]
      have i4 : (P : Int) / (W : Int) = (y : Int) := by rw [← hy]; simp
      have i5 : (W : Int) ≠ 0 := by omega
      have i5' : ¬ W = 0 := by omega
      have i6 : IntKind.i64.wrap (x : Int) = (x : Int) := by rw [IntKind.wrap_i64]; omega
      have i7 : IntKind.i64.wrap (y : Int) = (y : Int) := by rw [IntKind.wrap_i64]; omega
      have HFV : Hid (fldV W zs P = foldI (zs.getD P 0 - gsV (W : Int) zs x y A)) := by
        show _ = _
        unfold fldV
        rw [hx, hy, hA0]
      have b1 := HB.out P
      have b2 := gsV_bound (W := (W : Int)) HB.out x y A
      have hpz : P < zs.length := by rw [← HNL.out]; omega
      have hE : Ext w wr := Below.trans E1.out (Below.mono HM.out (Nat.le_succ _))
      have dp := hE.cell (HI.out.at (iget_of_lt hpz))
      have HEI := Lib.hid hE
      have t3 : (0 : Int) ≤ (P : Int) := by omega
      have hsi := HM.out.size
      have hsz := HW1S.out
      have UF := Lib.hid (fun W' (hE' : Ext w W') => UG.out x y A W' hE' hA (by omega) hyH (by omega))
      obtain ⟨G, hG⟩ : ∃ G, gsV (W : Int) zs x y A = G := ⟨_, rfl⟩
      obtain ⟨Z, hZ⟩ : ∃ Z, zs.getD P 0 = Z := ⟨_, rfl⟩
      rw [hG, hZ] at HFV
      rw [hG] at UF b2
      rw [hZ] at b1 dp
      have mZ : IntKind.i64.wrap (Z - G) = Z - G := by rw [IntKind.wrap_i64]; omega
      clear hE hpz hG hZ hx hy hA0 hdm hA
      go_wp2_with fail
      have hb9 : w.heap.size < w.heap.size + 1 := Nat.lt_succ_self _
      have hg9 : g0 < w.heap.size + 1 := Nat.lt_succ_of_lt hg0
      go_region_held3 (fun w' => (w'.cell? ⟨w.heap.size, 0, none⟩ = some (.int .i64 (W : Int)) ∧ w'.cell? ⟨w.heap.size, 1, none⟩ = some (.int .i64 (H : Int)) ∧ w'.cell? ⟨w.heap.size, 2, none⟩ = some (.slice (some ⟨g0, off0, none⟩) n cap)) ∧ w'.cell? ⟨g0, off0 + P, none⟩ = some (.int .i64 Z))
        (first
          | go_keep
          | (go_split_ands; exact ⟨⟨hx5.cell (by assumption), hx5.cell (by assumption), hx5.cell (by assumption)⟩, hx5.cell (by assumption)⟩)
          | (go_split_ands; exact ⟨⟨Below.cellv hb7 (by assumption) hb9, Below.cellv hb7 (by assumption) hb9, Below.cellv hb7 (by assumption) hb9⟩, Below.cellv hb7 (by assumption) hg9⟩))
        (first
          | (go_at_call 57; refine (UF.out _ HEI.out.drew).mono ?_; rintro e w5 ⟨rfl, hx5⟩; have ho5 := own_ext (own_ext HP.out (Ext.refl wr).drew) hx5; have hz5 : w.heap.size + 1 ≤ w5.heap.size := Nat.le_trans (by omega) (show wr.heap.size ≤ w5.heap.size from hx5.size))
          | (go_at_call 56; refine (rfold_any _ _).mono ?_; rintro e w6 ⟨rfl, rfl⟩)
          | (refine step_append_lies _ (by rfl) _ _ _ (by rfl) (w.heap.size + 1) 3 i0 (.int .i64 0) 1 8 Tryz.underlying46 hi hz0 hz1 hz2 rfl (by decide) _ P _ (by rfl) (ho5.alloc _) ⟨w5.heap.size, 0, none⟩ 1 1 [.int .i64 (foldI (Z - G))] (by rfl) (by rfl) (World.news_of_block (cs := #[.int .i64 (foldI (Z - G))]) (t := 3) (fr := (0, 0)) (heap_alloc_new w5 _)) (one_int _) (by decide) (by unfold maxLen; omega) (by omega) (by simp; omega) (w5.heap.size + 1) (by simp) ?_; intro gg gc w7 ho7 hg7 _ _; have hb7 := Below.grown (Below.refl (w.heap.size + 1) _) hg7 (by simp; omega) (fun k hk => (ho5.lt k hk).1)))
      have HP7 : Hid (w7.ownsRow (w.heap.size + 1) 3 1 (.slice (some ⟨gg, 0, none⟩) (P + 1) gc) (P + 1) ((folds W zs (P + 1)).map (Value.int .i64))) := by
        show World.ownsRow _ _ _ _ _ _ _
        rw [folds_succ, List.map_append, HFV.out]
        exact ho7
      have HM7 : Hid (Below (w.heap.size + 1) w1 w7) := HM.out.trans (Below.trans ((Below.mono ((Ext.refl wr).drew.trans hx5) (by omega)).alloc hz5 _) hb7)
      clear ho7 hg7 hb7 ho5 hx5 HP HM HEI
      go_wp2_with fail
      exact ⟨⟨P + 1, by omega, by go_num, HP7, HM7⟩, by simp [intOf]; omega⟩
    · obtain rfl : P = n := by omega
      have t2 : ¬ (P : Int) < (P : Int) := by omega
      have HX : Hid (Ext w wr) := Below.trans E1.out (Below.mono HM.out (Nat.le_succ _))
      go_wp2_with fail
      go_ret
      exact ⟨_, rfl, HX.out, HP.out⟩
set_option maxHeartbeats 8000000 in
set_option maxRecDepth 100000 in
theorem rleast_any (F : List Int) (v : Value) (w : World) (h : Ints w v F) (hl : F.length ≤ 1024) :
    Calls Tryz.prog 25 #[v] w fun e w' => e = .returned (.int .i64 (bestK F : Int)) ∧ Ext w w' := by
  obtain ⟨fa, fc, rfl⟩ := h.form
  obtain ⟨n, hn⟩ : ∃ n, F.length = n := ⟨_, rfl⟩
  have HLN := Lib.hid hn
  rw [hn] at h hl ⊢
  have HI2 := Lib.hid h
  clear h hn
  go_enter Tryz.func25, Tryz.ntmps25
  go_wp2_with fail
  go_loop [3, 4, 5] (fun bv kv jv => ∃ (j p : Nat) (s B : Int), j ≤ 8 ∧ jv = .int .i64 (j : Int) ∧ kv = .int .i64 (p : Int) ∧ bv = .int .i64 B ∧ Hid (lsK F j = (p, s)) ∧ Hid ((j = 0 ∧ B = -1) ∨ (0 < j ∧ B = s))) (fun _ _ jv => 8 - (intOf jv).toNat)
  case atStart => exact ⟨0, 0, 0, -1, by omega, rfl, rfl, rfl, rfl, .inl ⟨rfl, rfl⟩⟩
  case round =>
    obtain ⟨j, p, s, B, hj, rfl, rfl, rfl, HK, HBB⟩ := hrel
    by_cases hj8 : j < 8
    · have t1 : (j : Int) < 8 := by omega
      have hsb := lsK_le F j
      rw [HK.out] at hsb
      have hs1 : 0 ≤ s := hsb.2.1
      clear hsb
      go_wp2_with fail
      go_loop [6, 7] (fun sv iv => ∃ (i : Nat) (S : Int), i ≤ n ∧ iv = .int .i64 (i : Int) ∧ sv = .int .i64 S ∧ Hid (szF (F.take i) j = S)) (fun _ iv => n - (intOf iv).toNat)
      case atStart => exact ⟨0, 0, Nat.zero_le _, rfl, rfl, by show _ = _; simp [szF]⟩
      case round =>
        obtain ⟨i, S, hi, rfl, rfl, HZ⟩ := hrel
        have hzb := szF_bound (F.take i) j
        rw [HZ.out, List.length_take, HLN.out] at hzb
        have hS0 : 0 ≤ S ∧ S ≤ 102400 := by omega
        clear hzb
        by_cases hlt : i < n
        · obtain ⟨g, off, rfl⟩ := HI2.out.had (by omega)
          have q := HI2.out.at (iget_of_lt (j := i) (by rw [HLN.out]; exact hlt))
          have HSN : Hid (szF (F.take (i + 1)) j = S + szRi (F.getD i 0) (j : Int)) := by
            show _ = _
            rw [List.take_add_one, iget_of_lt (j := i) (by rw [HLN.out]; exact hlt)]
            show szF (F.take i ++ [F.getD i 0]) j = _
            rw [szF_snoc, HZ.out]
          have hvb := szRi_bound (F.getD i 0) (j : Int)
          obtain ⟨v, hv⟩ : ∃ v, F.getD i 0 = v := ⟨_, rfl⟩
          rw [hv] at q HSN hvb
          obtain ⟨T, hT⟩ : ∃ T, szRi v (j : Int) = T := ⟨_, rfl⟩
          rw [hT] at HSN hvb
          have HTT := Lib.hid hT
          have m1 : IntKind.i64.wrap (S + T) = S + T := by rw [IntKind.wrap_i64]; omega
          have t2 : (i : Int) < (n : Int) := by omega
          have t3 : (0 : Int) ≤ (i : Int) := by omega
          clear hv hT HZ
          go_wp2_with fail
          refine (rszri_any v (j : Int) _).mono ?_; rintro e w3 ⟨rfl, rfl⟩
          rw [HTT.out]
          go_wp2_with fail
          exact ⟨⟨i + 1, S + T, by omega, by go_num, by go_num, HSN⟩, by simp [intOf]; omega⟩
        · obtain rfl : i = n := by omega
          have t2 : ¬ (i : Int) < (i : Int) := by omega
          have hz : szF F j = S := by have h := HZ.out; rw [List.take_of_length_le (by rw [HLN.out]; exact Nat.le_refl _)] at h; exact h
          have HKn : Hid (lsK F (j + 1) = if j = 0 ∨ S < s then (j, S) else (p, s)) := by show _ = _; simp only [lsK]; rw [hz, HK.out]
          clear hz HZ
          rcases HBB.out with ⟨h0, hB⟩ | ⟨h0, hB⟩
          · have e0 : B < 0 := by omega
            have e0' : decide (B < 0) = true := decide_eq_true e0
            have HK2 : Hid (lsK F (j + 1) = (j, S)) := by show _ = _; rw [HKn.out, if_pos (.inl h0)]
            clear h0 hB
            go_wp2_with fail
            exact ⟨⟨j + 1, j, S, S, by omega, by go_num, rfl, rfl, HK2, .inr ⟨by omega, rfl⟩⟩, by simp [intOf]; omega⟩
          · subst hB
            have e0 : ¬ B < 0 := by omega
            by_cases hSs : S < B
            · have HK2 : Hid (lsK F (j + 1) = (j, S)) := by show _ = _; rw [HKn.out, if_pos (.inr hSs)]
              clear h0
              go_wp2_with fail
              exact ⟨⟨j + 1, j, S, S, by omega, by go_num, rfl, rfl, HK2, .inr ⟨by omega, rfl⟩⟩, by simp [intOf]; omega⟩
            · have HK2 : Hid (lsK F (j + 1) = (p, B)) := by show _ = _; rw [HKn.out, if_neg (by omega)]
              clear h0
              go_wp2_with fail
              exact ⟨⟨j + 1, p, B, B, by omega, by go_num, rfl, rfl, HK2, .inr ⟨by omega, rfl⟩⟩, by simp [intOf]; omega⟩
    · obtain rfl : j = 8 := by omega
      have hbk : bestK F = p := by unfold bestK; rw [HK.out]
      have HBK := Lib.hid hbk
      have t1 : ¬ ((8 : Nat) : Int) < 8 := by omega
      clear hbk HK HBB
      go_wp2_with fail
      go_ret
      exact ⟨by rw [HBK.out]; rfl, Ext.refl w⟩
end Go.Proofs.YtgohlhgapboijaaGreatDoor
