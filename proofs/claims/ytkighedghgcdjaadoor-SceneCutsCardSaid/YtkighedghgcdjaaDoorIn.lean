/- intra.isSide, check, predict, Predict: contracts over this seat's translation. -/
import Derived.Test.YtkighedghgcdjaaDoorBlk
namespace Go.Proofs.YtkighedghgcdjaaDoor
set_option linter.unusedVariables false
set_option linter.unusedSimpArgs false
open Go.RowKit Go.Extern.Stop Go.Stop Go.Extern

def kind : Fall := some ([], 13)
def sdB (n : Int) : Bool := decide (n = 4) || decide (n = 8)
theorem sdB_nat {n : Nat} (h : sdB n = true) : n = 4 ∨ n = 8 := by unfold sdB at h; simp at h; omega
theorem sd_any (n : Int) (w : World) : Calls Tryd.prog 71 #[.int .i64 n] w fun e w' => e = .returned (.bool (sdB n)) ∧ w = w' := by
  by_cases h1 : n = 4
  · have H : Hid (sdB n = true) := by show _ = _; unfold sdB; simp [h1]
    have b1 : (n == 4) = true := by simpa using h1
    clear h1
    go_enter Tryd.func71, Tryd.ntmps71
    go_wp2
    go_ret
    exact ⟨by rw [H.out]; rfl, rfl⟩
  · by_cases h2 : n = 8
    · have H : Hid (sdB n = true) := by show _ = _; unfold sdB; simp [h2]
      have b1 : (n == 4) = false := by simpa using h1
      have b2 : (n == 8) = true := by simpa using h2
      clear h1 h2
      go_enter Tryd.func71, Tryd.ntmps71
      go_wp2
      go_ret
      exact ⟨by rw [H.out]; rfl, rfl⟩
    · have H : Hid (sdB n = false) := by show _ = _; unfold sdB; simp [h1, h2]
      have b1 : (n == 4) = false := by simpa using h1
      have b2 : (n == 8) = false := by simpa using h2
      clear h1 h2
      go_enter Tryd.func71, Tryd.ntmps71
      go_wp2
      go_ret
      exact ⟨by rw [H.out]; rfl, rfl⟩
/-- what forbids to predict from these neighbours -/
def chkAns (ts ls : List Int) (c : Int) : Fall := if sdB ts.length = true ∧ ls.length = ts.length then (if ts.any nosmpB = true ∨ ls.any nosmpB = true ∨ nosmpB c = true then range else none) else fit
theorem nosmp_false {x : Int} (h : nosmpB x = false) : 0 ≤ x ∧ x ≤ 255 := by unfold nosmpB at h; simp at h; omega
theorem chkAns_none {ts ls : List Int} {c : Int} (h : chkAns ts ls c = none) : (ts.length = 4 ∨ ts.length = 8) ∧ ls.length = ts.length ∧ (∀ j, 0 ≤ ts.getD j 0 ∧ ts.getD j 0 ≤ 255) ∧ (∀ j, 0 ≤ ls.getD j 0 ∧ ls.getD j 0 ≤ 255) ∧ 0 ≤ c ∧ c ≤ 255 := by
  unfold chkAns at h
  split at h
  · rename_i h1
    split at h
    · cases h
    · rename_i h2
      have k1 : ts.any nosmpB = false := by cases hx : ts.any nosmpB with | false => rfl | true => exact absurd (Or.inl hx) h2
      have k2 : ls.any nosmpB = false := by cases hx : ls.any nosmpB with | false => rfl | true => exact absurd (Or.inr (Or.inl hx)) h2
      have k3 : nosmpB c = false := by cases hx : nosmpB c with | false => rfl | true => exact absurd (Or.inr (Or.inr hx)) h2
      exact ⟨sdB_nat h1.1, h1.2, fun j => nosmp_false (any_false k1 j 0 rfl), fun j => nosmp_false (any_false k2 j 0 rfl), nosmp_false k3⟩
  · cases h
set_option maxRecDepth 20000 in
theorem check_any (ts ls : List Int) (c : Int) (v u : Value) (w : World) (ha : Ints w v ts) (hb : Ints w u ls) :
    Calls Tryd.prog 78 #[v, u, .int .i64 c] w (EPost w (chkAns ts ls c)) := by
  have N1 := Lib.hid (nosmpB_has ts v w ha)
  have N2 := Lib.hid (nosmpB_has ls u w hb)
  obtain ⟨a, cap, rfl⟩ := ha.form
  obtain ⟨b, cap', rfl⟩ := hb.form
  clear ha hb
  cases hs : sdB ts.length with
  | false =>
    have HR : Hid (chkAns ts ls c = fit) := by show _ = _; unfold chkAns; rw [if_neg (fun e => by rw [hs] at e; cases e.1)]
    go_enter Tryd.func78, Tryd.ntmps78
    go_wp2_with fail
    refine (sd_any _ _).mono ?_; rintro e w1 ⟨rfl, rfl⟩
    go_wp2
    go_ret
    exact ⟨_, rfl, Ext.refl w, by rw [HR.out]; exact ErrIs.code (by decide)⟩
  | true =>
    by_cases hl : ls.length = ts.length
    · have b1 : ((ls.length : Int) != (ts.length : Int)) = false := by simp; omega
      cases h1 : ts.any nosmpB with
      | true =>
        have HR : Hid (chkAns ts ls c = range) := by show _ = _; unfold chkAns; rw [if_pos ⟨hs, hl⟩, if_pos (Or.inl h1)]
        clear hl
        go_enter Tryd.func78, Tryd.ntmps78
        go_wp2_with fail
        refine (sd_any _ _).mono ?_; rintro e w1 ⟨rfl, rfl⟩
        go_wp2_with fail
        refine (N1.out).mono ?_; rintro e w1 ⟨rfl, rfl⟩
        go_wp2
        go_ret
        exact ⟨_, rfl, Ext.refl w, by rw [HR.out]; exact ErrIs.code (by decide)⟩
      | false =>
        cases h2 : ls.any nosmpB with
        | true =>
          have HR : Hid (chkAns ts ls c = range) := by show _ = _; unfold chkAns; rw [if_pos ⟨hs, hl⟩, if_pos (Or.inr (Or.inl h2))]
          clear hl
          go_enter Tryd.func78, Tryd.ntmps78
          go_wp2_with fail
          refine (sd_any _ _).mono ?_; rintro e w1 ⟨rfl, rfl⟩
          go_wp2_with fail
          refine (N1.out).mono ?_; rintro e w1 ⟨rfl, rfl⟩
          go_wp2_with fail
          refine (N2.out).mono ?_; rintro e w1 ⟨rfl, rfl⟩
          go_wp2
          go_ret
          exact ⟨_, rfl, Ext.refl w, by rw [HR.out]; exact ErrIs.code (by decide)⟩
        | false =>
          cases h3 : nosmpB c with
          | true =>
            have HR : Hid (chkAns ts ls c = range) := by show _ = _; unfold chkAns; rw [if_pos ⟨hs, hl⟩, if_pos (Or.inr (Or.inr h3))]
            clear hl
            go_enter Tryd.func78, Tryd.ntmps78
            go_wp2_with fail
            refine (sd_any _ _).mono ?_; rintro e w1 ⟨rfl, rfl⟩
            go_wp2_with fail
            refine (N1.out).mono ?_; rintro e w1 ⟨rfl, rfl⟩
            go_wp2_with fail
            refine (N2.out).mono ?_; rintro e w1 ⟨rfl, rfl⟩
            go_wp2_with fail
            refine (nosmpB_call _ _).mono ?_; rintro e w1 ⟨rfl, rfl⟩
            go_wp2
            go_ret
            exact ⟨_, rfl, Ext.refl w, by rw [HR.out]; exact ErrIs.code (by decide)⟩
          | false =>
            have HR : Hid (chkAns ts ls c = none) := by show _ = _; unfold chkAns; rw [if_pos ⟨hs, hl⟩, if_neg (by rw [h1, h2, h3]; decide)]
            clear hl
            go_enter Tryd.func78, Tryd.ntmps78
            go_wp2_with fail
            refine (sd_any _ _).mono ?_; rintro e w1 ⟨rfl, rfl⟩
            go_wp2_with fail
            refine (N1.out).mono ?_; rintro e w1 ⟨rfl, rfl⟩
            go_wp2_with fail
            refine (N2.out).mono ?_; rintro e w1 ⟨rfl, rfl⟩
            go_wp2_with fail
            refine (nosmpB_call _ _).mono ?_; rintro e w1 ⟨rfl, rfl⟩
            go_wp2
            go_ret
            exact ⟨_, rfl, Ext.refl w, by rw [HR.out]; rfl⟩
    · have b1 : ((ls.length : Int) != (ts.length : Int)) = true := by simp; omega
      have HR : Hid (chkAns ts ls c = fit) := by show _ = _; unfold chkAns; rw [if_neg (fun e => hl e.2)]
      clear hl
      go_enter Tryd.func78, Tryd.ntmps78
      go_wp2_with fail
      refine (sd_any _ _).mono ?_; rintro e w1 ⟨rfl, rfl⟩
      go_wp2
      go_ret
      exact ⟨_, rfl, Ext.refl w, by rw [HR.out]; exact ErrIs.code (by decide)⟩

/-- all neighbours together -/
def nbF (t l : Nat → Int) : Nat → Int
  | 0 => 0
  | j + 1 => nbF t l j + (t j + l j)
def meanOf (ts ls : List Int) : Int := (ts.length + nbF (fun i => ts.getD i 0) (fun i => ls.getD i 0) ts.length) / (2 * ts.length)
/-- a square from its neighbours, by each mode -/
def prdF (mode : Int) (ts ls : List Int) (c : Int) (k : Nat) : Int :=
  if mode = 0 then meanOf ts ls else if mode = 1 then ts.getD (k % ts.length) 0 else if mode = 2 then ls.getD (k / ts.length) 0 else clipI (ls.getD (k / ts.length) 0 + ts.getD (k % ts.length) 0 - c)
def prdL (mode : Int) (ts ls : List Int) (c : Int) : List Int := rowL (ts.length * ts.length) (prdF mode ts ls c)
theorem nbF_bound {t l : Nat → Int} (h : ∀ j, 0 ≤ t j ∧ t j ≤ 255) (k : ∀ j, 0 ≤ l j ∧ l j ≤ 255) (n : Nat) : 0 ≤ nbF t l n ∧ nbF t l n ≤ 510 * n := by
  induction n with
  | zero => simp [nbF]
  | succ n ih => have := h n; have := k n; unfold nbF; push_cast; omega
theorem rowL_succi (k : Nat) (f : Nat → Int) : rowL (k + 1) f = rowL k f ++ [f k] := by
  unfold rowL
  rw [List.range_succ, List.map_append]
  rfl
set_option maxHeartbeats 8000000 in
set_option maxRecDepth 20000 in
theorem predict_0_4 (ts ls : List Int) (c : Int) (v u : Value) (w : World) (ha : Ints w v ts) (hb : Ints w u ls) (hn : ts.length = 4) (hl : ls.length = 4) (hT : ∀ j, 0 ≤ ts.getD j 0 ∧ ts.getD j 0 ≤ 255) (hL : ∀ j, 0 ≤ ls.getD j 0 ∧ ls.getD j 0 ≤ 255) (hc : 0 ≤ c ∧ c ≤ 255) :
    Calls Tryd.prog 79 #[.int .i64 0, v, u, .int .i64 c] w fun e w' => ∃ u, e = .returned u ∧ Ext w w' ∧ Ints w' u (prdL 0 ts ls c) := by
  obtain ⟨i0, hi, hz0, hz1, hz2⟩ := info_parts infoInt
  obtain ⟨g, off, cap, rfl, -, -⟩ := ha.addr (by omega)
  obtain ⟨g', off', cap', rfl, -, -⟩ := hb.addr (by omega)
  have HM : Hid (meanOf ts ls = (4 + nbF (fun i => ts.getD i 0) (fun i => ls.getD i 0) 4) / (2 * 4)) := by show _ = _; unfold meanOf; rw [hn]; rfl
  have HP : Hid (prdL 0 ts ls c = rowL 16 (prdF 0 ts ls c)) := by show _ = _; unfold prdL; rw [hn]
  rw [hn] at ha ⊢
  rw [hl] at hb ⊢
  have HN := Lib.hid hn
  have HLL := Lib.hid hl
  have HT := Lib.hid hT
  have HL := Lib.hid hL
  clear hn hl hT hL
  go_enter Tryd.func79, Tryd.ntmps79
  go_wp2
  go_loopw [10, 21] (fun sv iv wr => ∃ k : Nat, k ≤ 4 ∧ iv = .int .i64 k ∧ sv = .int .i64 (4 + nbF (fun i => ts.getD i 0) (fun i => ls.getD i 0) k) ∧ Ext w wr) (fun _ iv _ => 4 - (intOf iv).toNat)
  case atStart => exact ⟨0, Nat.zero_le _, rfl, rfl, Ext.refl _⟩
  case round =>
    obtain ⟨k, hk, rfl, rfl, hE⟩ := hrel
    by_cases hlt : k < 4
    · obtain ⟨x, hx'⟩ : ∃ x, ts.getD k 0 = x := ⟨_, rfl⟩
      obtain ⟨y, hy'⟩ : ∃ y, ls.getD k 0 = y := ⟨_, rfl⟩
      have cx := hE.cell (ha.at (get_of_lt (by rw [HN.out]; exact hlt)))
      have cy := hE.cell (hb.at (get_of_lt (by rw [HLL.out]; exact hlt)))
      have bx := HT.out k
      have by' := HL.out k
      have b0 := nbF_bound HT.out HL.out k
      have HS : Hid (nbF (fun i => ts.getD i 0) (fun i => ls.getD i 0) (k + 1) = nbF (fun i => ts.getD i 0) (fun i => ls.getD i 0) k + (x + y)) := by show _ = _; rw [← hx', ← hy']; rfl
      rw [hx'] at cx bx
      rw [hy'] at cy by'
      clear hx' hy'
      revert b0 HS
      generalize nbF (fun i => ts.getD i 0) (fun i => ls.getD i 0) k = s
      intro b0 HS
      have e1 : IntKind.i64.wrap (x + y) = x + y := by rw [IntKind.wrap_i64]; omega
      have e2 : IntKind.i64.wrap (4 + s + (x + y)) = 4 + s + (x + y) := by rw [IntKind.wrap_i64]; omega
      go_wp2
      go_quiet (fail)
      go_wp2
      go_roundw
      case rel => exact ⟨k + 1, by omega, by go_num, by rw [HS.out]; congr 1; omega, hE.drewN _⟩
      case measure => simp [intOf]; omega
    · obtain rfl : k = 4 := by omega
      have b0 := nbF_bound HT.out HL.out 4
      have hB0 := hE.size
      revert b0 HM
      generalize nbF (fun i => ts.getD i 0) (fun i => ls.getD i 0) 4 = s
      intro HM b0
      obtain ⟨mean, hmean⟩ : ∃ mean, (4 + s) / (2 * 4) = mean := ⟨_, rfl⟩
      have hmd : (4 + s) / 8 = mean := hmean
      have HMN : Hid (meanOf ts ls = mean) := by show _ = _; rw [HM.out, hmean]
      clear hmean HM
      go_wp2_with (at_make; refine wpList_make_own _ rfl _ _ 22 rfl w.heap.size 3 i0 (.int .i64 0) 1 Tryd.underlying22 hi hz0 hz1 .i64 .i64 _ 16 rfl rfl rfl (by rw [hz2]; omega) (by unfold maxLen; omega) hB0 ?_; intro w2 hown hgrow)
      have hE2 : Ext w w2 := hE.of_below (Below.grown (Below.refl _ _) hgrow (Nat.le_refl _) (fun k hk => by cases hk)) hB0
      clear hgrow hi hz0 hz1 hz2 hE hB0
      go_wp2
      go_loopw [12, 46] (fun bv jv wr => ∃ j : Nat, j ≤ 4 ∧ jv = .int .i64 j ∧ Hid (wr.ownsRow w.heap.size 3 1 bv (j * 4) ((rowL (j * 4) (prdF 0 ts ls c)).map (Value.int .i64))) ∧ Ext w wr) (fun _ jv _ => 4 - (intOf jv).toNat)
      case atStart => exact ⟨0, Nat.zero_le _, rfl, hown, hE2⟩
      case round =>
        clear hown hE2
        obtain ⟨j, hj, rfl, HO, hE⟩ := hrel
        by_cases hlt : j < 4
        · obtain ⟨y, hy'⟩ : ∃ y, ls.getD j 0 = y := ⟨_, rfl⟩
          have cy := hE.cell (hb.at (get_of_lt (by rw [HLL.out]; exact hlt)))
          have by' := HL.out j
          rw [hy'] at cy by'
          have HY := Lib.hid hy'
          have t1 : decide ((j : Int) < 4) = true := decide_eq_true (by omega)
          clear hy'
          go_wp2
          go_loopw [12, 52] (fun bv iv wr => ∃ i : Nat, i ≤ 4 ∧ iv = .int .i64 i ∧ Hid (wr.ownsRow w.heap.size 3 1 bv (j * 4 + i) ((rowL (j * 4 + i) (prdF 0 ts ls c)).map (Value.int .i64))) ∧ Ext w wr) (fun _ iv _ => 4 - (intOf iv).toNat)
          case atStart => exact ⟨0, Nat.zero_le _, rfl, HO.out, hE⟩
          case round =>
            clear HO hE cy
            obtain ⟨i, hi, rfl, HO, hE⟩ := hrel
            have hB := hE.size
            by_cases hit : i < 4
            · obtain ⟨x, hx'⟩ : ∃ x, ts.getD i 0 = x := ⟨_, rfl⟩
              have cx := hE.cell (ha.at (get_of_lt (by rw [HN.out]; exact hit)))
              have bx := HT.out i
              rw [hx'] at cx bx
              obtain ⟨z, hz⟩ : ∃ z, clipI (y + x - c) = z := ⟨_, rfl⟩
              have HC : Hid (∀ W, Calls Tryd.prog 23 #[.int .i64 (y + x - c)] W fun e w' => e = .returned (.int .i64 z) ∧ W = w') := fun W => by rw [← hz]; exact clip_any _ W
              have HS : Hid ((rowL (j * 4 + i + 1) (prdF 0 ts ls c)).map (Value.int .i64) = (rowL (j * 4 + i) (prdF 0 ts ls c)).map (Value.int .i64) ++ [.int .i64 mean]) := by
                show _ = _
                rw [rowL_succi, List.map_append]
                have e1 : (j * 4 + i) % ts.length = i := by rw [HN.out]; omega
                have e2 : (j * 4 + i) / ts.length = j := by rw [HN.out]; omega
                have e3 : prdF 0 ts ls c (j * 4 + i) = mean := by
                  unfold prdF
                  rw [e1, e2, hx', HY.out, hz, HMN.out]
                  rfl
                rw [e3]
                rfl
              clear hx' hz
              go_wp2_with (at_builtin; refine push_int rfl _ _ 22 rfl Tryd.underlying22 _ _ _ _ rfl HO.out (by show Value.slice (some ⟨wr.heap.size, 0, none⟩) 1 1 = _; simp) hB (by omega) ?_; intro v' w7 h1 h2)
              have HO7 := Lib.hid h1
              have hE7 := hE.of_below h2 (Nat.le_refl _)
              clear h1 h2 HO hE
              go_wp2
              go_roundw
              case rel => exact ⟨i + 1, by omega, by go_num, by
                show World.ownsRow _ _ _ _ _ _ _
                rw [show j * 4 + (i + 1) = j * 4 + i + 1 by omega, HS.out]
                exact HO7.out, hE7⟩
              case measure => simp [intOf]; omega
            · obtain rfl : i = 4 := by omega
              go_wp2
              go_roundw
              case rel => exact ⟨j + 1, by omega, by go_num, by
                show World.ownsRow _ _ _ _ _ _ _
                rw [show (j + 1) * 4 = j * 4 + 4 by omega]
                exact HO.out, hE⟩
              case measure => simp [intOf]; omega
        · obtain rfl : j = 4 := by omega
          go_wp2
          go_ret
          exact ⟨_, rfl, hE, by rw [HP.out]; exact Ints.of_row HO.out (by omega)⟩
set_option maxHeartbeats 8000000 in
set_option maxRecDepth 20000 in
theorem predict_1_4 (ts ls : List Int) (c : Int) (v u : Value) (w : World) (ha : Ints w v ts) (hb : Ints w u ls) (hn : ts.length = 4) (hl : ls.length = 4) (hT : ∀ j, 0 ≤ ts.getD j 0 ∧ ts.getD j 0 ≤ 255) (hL : ∀ j, 0 ≤ ls.getD j 0 ∧ ls.getD j 0 ≤ 255) (hc : 0 ≤ c ∧ c ≤ 255) :
    Calls Tryd.prog 79 #[.int .i64 1, v, u, .int .i64 c] w fun e w' => ∃ u, e = .returned u ∧ Ext w w' ∧ Ints w' u (prdL 1 ts ls c) := by
  obtain ⟨i0, hi, hz0, hz1, hz2⟩ := info_parts infoInt
  obtain ⟨g, off, cap, rfl, -, -⟩ := ha.addr (by omega)
  obtain ⟨g', off', cap', rfl, -, -⟩ := hb.addr (by omega)
  have HM : Hid (meanOf ts ls = (4 + nbF (fun i => ts.getD i 0) (fun i => ls.getD i 0) 4) / (2 * 4)) := by show _ = _; unfold meanOf; rw [hn]; rfl
  have HP : Hid (prdL 1 ts ls c = rowL 16 (prdF 1 ts ls c)) := by show _ = _; unfold prdL; rw [hn]
  rw [hn] at ha ⊢
  rw [hl] at hb ⊢
  have HN := Lib.hid hn
  have HLL := Lib.hid hl
  have HT := Lib.hid hT
  have HL := Lib.hid hL
  clear hn hl hT hL
  go_enter Tryd.func79, Tryd.ntmps79
  go_wp2
  go_loopw [10, 21] (fun sv iv wr => ∃ k : Nat, k ≤ 4 ∧ iv = .int .i64 k ∧ sv = .int .i64 (4 + nbF (fun i => ts.getD i 0) (fun i => ls.getD i 0) k) ∧ Ext w wr) (fun _ iv _ => 4 - (intOf iv).toNat)
  case atStart => exact ⟨0, Nat.zero_le _, rfl, rfl, Ext.refl _⟩
  case round =>
    obtain ⟨k, hk, rfl, rfl, hE⟩ := hrel
    by_cases hlt : k < 4
    · obtain ⟨x, hx'⟩ : ∃ x, ts.getD k 0 = x := ⟨_, rfl⟩
      obtain ⟨y, hy'⟩ : ∃ y, ls.getD k 0 = y := ⟨_, rfl⟩
      have cx := hE.cell (ha.at (get_of_lt (by rw [HN.out]; exact hlt)))
      have cy := hE.cell (hb.at (get_of_lt (by rw [HLL.out]; exact hlt)))
      have bx := HT.out k
      have by' := HL.out k
      have b0 := nbF_bound HT.out HL.out k
      have HS : Hid (nbF (fun i => ts.getD i 0) (fun i => ls.getD i 0) (k + 1) = nbF (fun i => ts.getD i 0) (fun i => ls.getD i 0) k + (x + y)) := by show _ = _; rw [← hx', ← hy']; rfl
      rw [hx'] at cx bx
      rw [hy'] at cy by'
      clear hx' hy'
      revert b0 HS
      generalize nbF (fun i => ts.getD i 0) (fun i => ls.getD i 0) k = s
      intro b0 HS
      have e1 : IntKind.i64.wrap (x + y) = x + y := by rw [IntKind.wrap_i64]; omega
      have e2 : IntKind.i64.wrap (4 + s + (x + y)) = 4 + s + (x + y) := by rw [IntKind.wrap_i64]; omega
      go_wp2
      go_quiet (fail)
      go_wp2
      go_roundw
      case rel => exact ⟨k + 1, by omega, by go_num, by rw [HS.out]; congr 1; omega, hE.drewN _⟩
      case measure => simp [intOf]; omega
    · obtain rfl : k = 4 := by omega
      have b0 := nbF_bound HT.out HL.out 4
      have hB0 := hE.size
      revert b0 HM
      generalize nbF (fun i => ts.getD i 0) (fun i => ls.getD i 0) 4 = s
      intro HM b0
      obtain ⟨mean, hmean⟩ : ∃ mean, (4 + s) / (2 * 4) = mean := ⟨_, rfl⟩
      have hmd : (4 + s) / 8 = mean := hmean
      have HMN : Hid (meanOf ts ls = mean) := by show _ = _; rw [HM.out, hmean]
      clear hmean HM
      go_wp2_with (at_make; refine wpList_make_own _ rfl _ _ 22 rfl w.heap.size 3 i0 (.int .i64 0) 1 Tryd.underlying22 hi hz0 hz1 .i64 .i64 _ 16 rfl rfl rfl (by rw [hz2]; omega) (by unfold maxLen; omega) hB0 ?_; intro w2 hown hgrow)
      have hE2 : Ext w w2 := hE.of_below (Below.grown (Below.refl _ _) hgrow (Nat.le_refl _) (fun k hk => by cases hk)) hB0
      clear hgrow hi hz0 hz1 hz2 hE hB0
      go_wp2
      go_loopw [12, 46] (fun bv jv wr => ∃ j : Nat, j ≤ 4 ∧ jv = .int .i64 j ∧ Hid (wr.ownsRow w.heap.size 3 1 bv (j * 4) ((rowL (j * 4) (prdF 1 ts ls c)).map (Value.int .i64))) ∧ Ext w wr) (fun _ jv _ => 4 - (intOf jv).toNat)
      case atStart => exact ⟨0, Nat.zero_le _, rfl, hown, hE2⟩
      case round =>
        clear hown hE2
        obtain ⟨j, hj, rfl, HO, hE⟩ := hrel
        by_cases hlt : j < 4
        · obtain ⟨y, hy'⟩ : ∃ y, ls.getD j 0 = y := ⟨_, rfl⟩
          have cy := hE.cell (hb.at (get_of_lt (by rw [HLL.out]; exact hlt)))
          have by' := HL.out j
          rw [hy'] at cy by'
          have HY := Lib.hid hy'
          have t1 : decide ((j : Int) < 4) = true := decide_eq_true (by omega)
          clear hy'
          go_wp2
          go_loopw [12, 52] (fun bv iv wr => ∃ i : Nat, i ≤ 4 ∧ iv = .int .i64 i ∧ Hid (wr.ownsRow w.heap.size 3 1 bv (j * 4 + i) ((rowL (j * 4 + i) (prdF 1 ts ls c)).map (Value.int .i64))) ∧ Ext w wr) (fun _ iv _ => 4 - (intOf iv).toNat)
          case atStart => exact ⟨0, Nat.zero_le _, rfl, HO.out, hE⟩
          case round =>
            clear HO hE cy
            obtain ⟨i, hi, rfl, HO, hE⟩ := hrel
            have hB := hE.size
            by_cases hit : i < 4
            · obtain ⟨x, hx'⟩ : ∃ x, ts.getD i 0 = x := ⟨_, rfl⟩
              have cx := hE.cell (ha.at (get_of_lt (by rw [HN.out]; exact hit)))
              have bx := HT.out i
              rw [hx'] at cx bx
              obtain ⟨z, hz⟩ : ∃ z, clipI (y + x - c) = z := ⟨_, rfl⟩
              have HC : Hid (∀ W, Calls Tryd.prog 23 #[.int .i64 (y + x - c)] W fun e w' => e = .returned (.int .i64 z) ∧ W = w') := fun W => by rw [← hz]; exact clip_any _ W
              have HS : Hid ((rowL (j * 4 + i + 1) (prdF 1 ts ls c)).map (Value.int .i64) = (rowL (j * 4 + i) (prdF 1 ts ls c)).map (Value.int .i64) ++ [.int .i64 x]) := by
                show _ = _
                rw [rowL_succi, List.map_append]
                have e1 : (j * 4 + i) % ts.length = i := by rw [HN.out]; omega
                have e2 : (j * 4 + i) / ts.length = j := by rw [HN.out]; omega
                have e3 : prdF 1 ts ls c (j * 4 + i) = x := by
                  unfold prdF
                  rw [e1, e2, hx', HY.out, hz, HMN.out]
                  rfl
                rw [e3]
                rfl
              clear hx' hz
              go_wp2_with (at_builtin; refine push_int rfl _ _ 22 rfl Tryd.underlying22 _ _ _ _ rfl HO.out (by show Value.slice (some ⟨wr.heap.size, 0, none⟩) 1 1 = _; simp) hB (by omega) ?_; intro v' w7 h1 h2)
              have HO7 := Lib.hid h1
              have hE7 := hE.of_below h2 (Nat.le_refl _)
              clear h1 h2 HO hE
              go_wp2
              go_roundw
              case rel => exact ⟨i + 1, by omega, by go_num, by
                show World.ownsRow _ _ _ _ _ _ _
                rw [show j * 4 + (i + 1) = j * 4 + i + 1 by omega, HS.out]
                exact HO7.out, hE7⟩
              case measure => simp [intOf]; omega
            · obtain rfl : i = 4 := by omega
              go_wp2
              go_roundw
              case rel => exact ⟨j + 1, by omega, by go_num, by
                show World.ownsRow _ _ _ _ _ _ _
                rw [show (j + 1) * 4 = j * 4 + 4 by omega]
                exact HO.out, hE⟩
              case measure => simp [intOf]; omega
        · obtain rfl : j = 4 := by omega
          go_wp2
          go_ret
          exact ⟨_, rfl, hE, by rw [HP.out]; exact Ints.of_row HO.out (by omega)⟩
set_option maxHeartbeats 8000000 in
set_option maxRecDepth 20000 in
theorem predict_2_4 (ts ls : List Int) (c : Int) (v u : Value) (w : World) (ha : Ints w v ts) (hb : Ints w u ls) (hn : ts.length = 4) (hl : ls.length = 4) (hT : ∀ j, 0 ≤ ts.getD j 0 ∧ ts.getD j 0 ≤ 255) (hL : ∀ j, 0 ≤ ls.getD j 0 ∧ ls.getD j 0 ≤ 255) (hc : 0 ≤ c ∧ c ≤ 255) :
    Calls Tryd.prog 79 #[.int .i64 2, v, u, .int .i64 c] w fun e w' => ∃ u, e = .returned u ∧ Ext w w' ∧ Ints w' u (prdL 2 ts ls c) := by
  obtain ⟨i0, hi, hz0, hz1, hz2⟩ := info_parts infoInt
  obtain ⟨g, off, cap, rfl, -, -⟩ := ha.addr (by omega)
  obtain ⟨g', off', cap', rfl, -, -⟩ := hb.addr (by omega)
  have HM : Hid (meanOf ts ls = (4 + nbF (fun i => ts.getD i 0) (fun i => ls.getD i 0) 4) / (2 * 4)) := by show _ = _; unfold meanOf; rw [hn]; rfl
  have HP : Hid (prdL 2 ts ls c = rowL 16 (prdF 2 ts ls c)) := by show _ = _; unfold prdL; rw [hn]
  rw [hn] at ha ⊢
  rw [hl] at hb ⊢
  have HN := Lib.hid hn
  have HLL := Lib.hid hl
  have HT := Lib.hid hT
  have HL := Lib.hid hL
  clear hn hl hT hL
  go_enter Tryd.func79, Tryd.ntmps79
  go_wp2
  go_loopw [10, 21] (fun sv iv wr => ∃ k : Nat, k ≤ 4 ∧ iv = .int .i64 k ∧ sv = .int .i64 (4 + nbF (fun i => ts.getD i 0) (fun i => ls.getD i 0) k) ∧ Ext w wr) (fun _ iv _ => 4 - (intOf iv).toNat)
  case atStart => exact ⟨0, Nat.zero_le _, rfl, rfl, Ext.refl _⟩
  case round =>
    obtain ⟨k, hk, rfl, rfl, hE⟩ := hrel
    by_cases hlt : k < 4
    · obtain ⟨x, hx'⟩ : ∃ x, ts.getD k 0 = x := ⟨_, rfl⟩
      obtain ⟨y, hy'⟩ : ∃ y, ls.getD k 0 = y := ⟨_, rfl⟩
      have cx := hE.cell (ha.at (get_of_lt (by rw [HN.out]; exact hlt)))
      have cy := hE.cell (hb.at (get_of_lt (by rw [HLL.out]; exact hlt)))
      have bx := HT.out k
      have by' := HL.out k
      have b0 := nbF_bound HT.out HL.out k
      have HS : Hid (nbF (fun i => ts.getD i 0) (fun i => ls.getD i 0) (k + 1) = nbF (fun i => ts.getD i 0) (fun i => ls.getD i 0) k + (x + y)) := by show _ = _; rw [← hx', ← hy']; rfl
      rw [hx'] at cx bx
      rw [hy'] at cy by'
      clear hx' hy'
      revert b0 HS
      generalize nbF (fun i => ts.getD i 0) (fun i => ls.getD i 0) k = s
      intro b0 HS
      have e1 : IntKind.i64.wrap (x + y) = x + y := by rw [IntKind.wrap_i64]; omega
      have e2 : IntKind.i64.wrap (4 + s + (x + y)) = 4 + s + (x + y) := by rw [IntKind.wrap_i64]; omega
      go_wp2
      go_quiet (fail)
      go_wp2
      go_roundw
      case rel => exact ⟨k + 1, by omega, by go_num, by rw [HS.out]; congr 1; omega, hE.drewN _⟩
      case measure => simp [intOf]; omega
    · obtain rfl : k = 4 := by omega
      have b0 := nbF_bound HT.out HL.out 4
      have hB0 := hE.size
      revert b0 HM
      generalize nbF (fun i => ts.getD i 0) (fun i => ls.getD i 0) 4 = s
      intro HM b0
      obtain ⟨mean, hmean⟩ : ∃ mean, (4 + s) / (2 * 4) = mean := ⟨_, rfl⟩
      have hmd : (4 + s) / 8 = mean := hmean
      have HMN : Hid (meanOf ts ls = mean) := by show _ = _; rw [HM.out, hmean]
      clear hmean HM
      go_wp2_with (at_make; refine wpList_make_own _ rfl _ _ 22 rfl w.heap.size 3 i0 (.int .i64 0) 1 Tryd.underlying22 hi hz0 hz1 .i64 .i64 _ 16 rfl rfl rfl (by rw [hz2]; omega) (by unfold maxLen; omega) hB0 ?_; intro w2 hown hgrow)
      have hE2 : Ext w w2 := hE.of_below (Below.grown (Below.refl _ _) hgrow (Nat.le_refl _) (fun k hk => by cases hk)) hB0
      clear hgrow hi hz0 hz1 hz2 hE hB0
      go_wp2
      go_loopw [12, 46] (fun bv jv wr => ∃ j : Nat, j ≤ 4 ∧ jv = .int .i64 j ∧ Hid (wr.ownsRow w.heap.size 3 1 bv (j * 4) ((rowL (j * 4) (prdF 2 ts ls c)).map (Value.int .i64))) ∧ Ext w wr) (fun _ jv _ => 4 - (intOf jv).toNat)
      case atStart => exact ⟨0, Nat.zero_le _, rfl, hown, hE2⟩
      case round =>
        clear hown hE2
        obtain ⟨j, hj, rfl, HO, hE⟩ := hrel
        by_cases hlt : j < 4
        · obtain ⟨y, hy'⟩ : ∃ y, ls.getD j 0 = y := ⟨_, rfl⟩
          have cy := hE.cell (hb.at (get_of_lt (by rw [HLL.out]; exact hlt)))
          have by' := HL.out j
          rw [hy'] at cy by'
          have HY := Lib.hid hy'
          have t1 : decide ((j : Int) < 4) = true := decide_eq_true (by omega)
          clear hy'
          go_wp2
          go_loopw [12, 52] (fun bv iv wr => ∃ i : Nat, i ≤ 4 ∧ iv = .int .i64 i ∧ Hid (wr.ownsRow w.heap.size 3 1 bv (j * 4 + i) ((rowL (j * 4 + i) (prdF 2 ts ls c)).map (Value.int .i64))) ∧ Ext w wr) (fun _ iv _ => 4 - (intOf iv).toNat)
          case atStart => exact ⟨0, Nat.zero_le _, rfl, HO.out, hE⟩
          case round =>
            clear HO hE cy
            obtain ⟨i, hi, rfl, HO, hE⟩ := hrel
            have hB := hE.size
            by_cases hit : i < 4
            · obtain ⟨x, hx'⟩ : ∃ x, ts.getD i 0 = x := ⟨_, rfl⟩
              have cx := hE.cell (ha.at (get_of_lt (by rw [HN.out]; exact hit)))
              have bx := HT.out i
              rw [hx'] at cx bx
              obtain ⟨z, hz⟩ : ∃ z, clipI (y + x - c) = z := ⟨_, rfl⟩
              have HC : Hid (∀ W, Calls Tryd.prog 23 #[.int .i64 (y + x - c)] W fun e w' => e = .returned (.int .i64 z) ∧ W = w') := fun W => by rw [← hz]; exact clip_any _ W
              have HS : Hid ((rowL (j * 4 + i + 1) (prdF 2 ts ls c)).map (Value.int .i64) = (rowL (j * 4 + i) (prdF 2 ts ls c)).map (Value.int .i64) ++ [.int .i64 y]) := by
                show _ = _
                rw [rowL_succi, List.map_append]
                have e1 : (j * 4 + i) % ts.length = i := by rw [HN.out]; omega
                have e2 : (j * 4 + i) / ts.length = j := by rw [HN.out]; omega
                have e3 : prdF 2 ts ls c (j * 4 + i) = y := by
                  unfold prdF
                  rw [e1, e2, hx', HY.out, hz, HMN.out]
                  rfl
                rw [e3]
                rfl
              clear hx' hz
              go_wp2_with (at_builtin; refine push_int rfl _ _ 22 rfl Tryd.underlying22 _ _ _ _ rfl HO.out (by show Value.slice (some ⟨wr.heap.size, 0, none⟩) 1 1 = _; simp) hB (by omega) ?_; intro v' w7 h1 h2)
              have HO7 := Lib.hid h1
              have hE7 := hE.of_below h2 (Nat.le_refl _)
              clear h1 h2 HO hE
              go_wp2
              go_roundw
              case rel => exact ⟨i + 1, by omega, by go_num, by
                show World.ownsRow _ _ _ _ _ _ _
                rw [show j * 4 + (i + 1) = j * 4 + i + 1 by omega, HS.out]
                exact HO7.out, hE7⟩
              case measure => simp [intOf]; omega
            · obtain rfl : i = 4 := by omega
              go_wp2
              go_roundw
              case rel => exact ⟨j + 1, by omega, by go_num, by
                show World.ownsRow _ _ _ _ _ _ _
                rw [show (j + 1) * 4 = j * 4 + 4 by omega]
                exact HO.out, hE⟩
              case measure => simp [intOf]; omega
        · obtain rfl : j = 4 := by omega
          go_wp2
          go_ret
          exact ⟨_, rfl, hE, by rw [HP.out]; exact Ints.of_row HO.out (by omega)⟩
set_option maxHeartbeats 8000000 in
set_option maxRecDepth 20000 in
theorem predict_3_4 (ts ls : List Int) (c : Int) (v u : Value) (w : World) (ha : Ints w v ts) (hb : Ints w u ls) (hn : ts.length = 4) (hl : ls.length = 4) (hT : ∀ j, 0 ≤ ts.getD j 0 ∧ ts.getD j 0 ≤ 255) (hL : ∀ j, 0 ≤ ls.getD j 0 ∧ ls.getD j 0 ≤ 255) (hc : 0 ≤ c ∧ c ≤ 255) :
    Calls Tryd.prog 79 #[.int .i64 3, v, u, .int .i64 c] w fun e w' => ∃ u, e = .returned u ∧ Ext w w' ∧ Ints w' u (prdL 3 ts ls c) := by
  obtain ⟨i0, hi, hz0, hz1, hz2⟩ := info_parts infoInt
  obtain ⟨g, off, cap, rfl, -, -⟩ := ha.addr (by omega)
  obtain ⟨g', off', cap', rfl, -, -⟩ := hb.addr (by omega)
  have HM : Hid (meanOf ts ls = (4 + nbF (fun i => ts.getD i 0) (fun i => ls.getD i 0) 4) / (2 * 4)) := by show _ = _; unfold meanOf; rw [hn]; rfl
  have HP : Hid (prdL 3 ts ls c = rowL 16 (prdF 3 ts ls c)) := by show _ = _; unfold prdL; rw [hn]
  rw [hn] at ha ⊢
  rw [hl] at hb ⊢
  have HN := Lib.hid hn
  have HLL := Lib.hid hl
  have HT := Lib.hid hT
  have HL := Lib.hid hL
  clear hn hl hT hL
  go_enter Tryd.func79, Tryd.ntmps79
  go_wp2
  go_loopw [10, 21] (fun sv iv wr => ∃ k : Nat, k ≤ 4 ∧ iv = .int .i64 k ∧ sv = .int .i64 (4 + nbF (fun i => ts.getD i 0) (fun i => ls.getD i 0) k) ∧ Ext w wr) (fun _ iv _ => 4 - (intOf iv).toNat)
  case atStart => exact ⟨0, Nat.zero_le _, rfl, rfl, Ext.refl _⟩
  case round =>
    obtain ⟨k, hk, rfl, rfl, hE⟩ := hrel
    by_cases hlt : k < 4
    · obtain ⟨x, hx'⟩ : ∃ x, ts.getD k 0 = x := ⟨_, rfl⟩
      obtain ⟨y, hy'⟩ : ∃ y, ls.getD k 0 = y := ⟨_, rfl⟩
      have cx := hE.cell (ha.at (get_of_lt (by rw [HN.out]; exact hlt)))
      have cy := hE.cell (hb.at (get_of_lt (by rw [HLL.out]; exact hlt)))
      have bx := HT.out k
      have by' := HL.out k
      have b0 := nbF_bound HT.out HL.out k
      have HS : Hid (nbF (fun i => ts.getD i 0) (fun i => ls.getD i 0) (k + 1) = nbF (fun i => ts.getD i 0) (fun i => ls.getD i 0) k + (x + y)) := by show _ = _; rw [← hx', ← hy']; rfl
      rw [hx'] at cx bx
      rw [hy'] at cy by'
      clear hx' hy'
      revert b0 HS
      generalize nbF (fun i => ts.getD i 0) (fun i => ls.getD i 0) k = s
      intro b0 HS
      have e1 : IntKind.i64.wrap (x + y) = x + y := by rw [IntKind.wrap_i64]; omega
      have e2 : IntKind.i64.wrap (4 + s + (x + y)) = 4 + s + (x + y) := by rw [IntKind.wrap_i64]; omega
      go_wp2
      go_quiet (fail)
      go_wp2
      go_roundw
      case rel => exact ⟨k + 1, by omega, by go_num, by rw [HS.out]; congr 1; omega, hE.drewN _⟩
      case measure => simp [intOf]; omega
    · obtain rfl : k = 4 := by omega
      have b0 := nbF_bound HT.out HL.out 4
      have hB0 := hE.size
      revert b0 HM
      generalize nbF (fun i => ts.getD i 0) (fun i => ls.getD i 0) 4 = s
      intro HM b0
      obtain ⟨mean, hmean⟩ : ∃ mean, (4 + s) / (2 * 4) = mean := ⟨_, rfl⟩
      have hmd : (4 + s) / 8 = mean := hmean
      have HMN : Hid (meanOf ts ls = mean) := by show _ = _; rw [HM.out, hmean]
      clear hmean HM
      go_wp2_with (at_make; refine wpList_make_own _ rfl _ _ 22 rfl w.heap.size 3 i0 (.int .i64 0) 1 Tryd.underlying22 hi hz0 hz1 .i64 .i64 _ 16 rfl rfl rfl (by rw [hz2]; omega) (by unfold maxLen; omega) hB0 ?_; intro w2 hown hgrow)
      have hE2 : Ext w w2 := hE.of_below (Below.grown (Below.refl _ _) hgrow (Nat.le_refl _) (fun k hk => by cases hk)) hB0
      clear hgrow hi hz0 hz1 hz2 hE hB0
      go_wp2
      go_loopw [12, 46] (fun bv jv wr => ∃ j : Nat, j ≤ 4 ∧ jv = .int .i64 j ∧ Hid (wr.ownsRow w.heap.size 3 1 bv (j * 4) ((rowL (j * 4) (prdF 3 ts ls c)).map (Value.int .i64))) ∧ Ext w wr) (fun _ jv _ => 4 - (intOf jv).toNat)
      case atStart => exact ⟨0, Nat.zero_le _, rfl, hown, hE2⟩
      case round =>
        clear hown hE2
        obtain ⟨j, hj, rfl, HO, hE⟩ := hrel
        by_cases hlt : j < 4
        · obtain ⟨y, hy'⟩ : ∃ y, ls.getD j 0 = y := ⟨_, rfl⟩
          have cy := hE.cell (hb.at (get_of_lt (by rw [HLL.out]; exact hlt)))
          have by' := HL.out j
          rw [hy'] at cy by'
          have HY := Lib.hid hy'
          have t1 : decide ((j : Int) < 4) = true := decide_eq_true (by omega)
          clear hy'
          go_wp2
          go_loopw [12, 52] (fun bv iv wr => ∃ i : Nat, i ≤ 4 ∧ iv = .int .i64 i ∧ Hid (wr.ownsRow w.heap.size 3 1 bv (j * 4 + i) ((rowL (j * 4 + i) (prdF 3 ts ls c)).map (Value.int .i64))) ∧ Ext w wr) (fun _ iv _ => 4 - (intOf iv).toNat)
          case atStart => exact ⟨0, Nat.zero_le _, rfl, HO.out, hE⟩
          case round =>
            clear HO hE cy
            obtain ⟨i, hi, rfl, HO, hE⟩ := hrel
            have hB := hE.size
            by_cases hit : i < 4
            · obtain ⟨x, hx'⟩ : ∃ x, ts.getD i 0 = x := ⟨_, rfl⟩
              have cx := hE.cell (ha.at (get_of_lt (by rw [HN.out]; exact hit)))
              have bx := HT.out i
              rw [hx'] at cx bx
              obtain ⟨z, hz⟩ : ∃ z, clipI (y + x - c) = z := ⟨_, rfl⟩
              have HC : Hid (∀ W, Calls Tryd.prog 23 #[.int .i64 (y + x - c)] W fun e w' => e = .returned (.int .i64 z) ∧ W = w') := fun W => by rw [← hz]; exact clip_any _ W
              have HS : Hid ((rowL (j * 4 + i + 1) (prdF 3 ts ls c)).map (Value.int .i64) = (rowL (j * 4 + i) (prdF 3 ts ls c)).map (Value.int .i64) ++ [.int .i64 z]) := by
                show _ = _
                rw [rowL_succi, List.map_append]
                have e1 : (j * 4 + i) % ts.length = i := by rw [HN.out]; omega
                have e2 : (j * 4 + i) / ts.length = j := by rw [HN.out]; omega
                have e3 : prdF 3 ts ls c (j * 4 + i) = z := by
                  unfold prdF
                  rw [e1, e2, hx', HY.out, hz, HMN.out]
                  rfl
                rw [e3]
                rfl
              clear hx' hz
              go_wp2_with fail
              refine (HC.out _).mono ?_; rintro e w8 ⟨rfl, rfl⟩
              go_wp2_with (at_builtin; refine push_int rfl _ _ 22 rfl Tryd.underlying22 _ _ _ _ rfl HO.out (by show Value.slice (some ⟨wr.heap.size, 0, none⟩) 1 1 = _; simp) hB (by omega) ?_; intro v' w7 h1 h2)
              have HO7 := Lib.hid h1
              have hE7 := hE.of_below h2 (Nat.le_refl _)
              clear h1 h2 HO hE
              go_wp2
              go_roundw
              case rel => exact ⟨i + 1, by omega, by go_num, by
                show World.ownsRow _ _ _ _ _ _ _
                rw [show j * 4 + (i + 1) = j * 4 + i + 1 by omega, HS.out]
                exact HO7.out, hE7⟩
              case measure => simp [intOf]; omega
            · obtain rfl : i = 4 := by omega
              go_wp2
              go_roundw
              case rel => exact ⟨j + 1, by omega, by go_num, by
                show World.ownsRow _ _ _ _ _ _ _
                rw [show (j + 1) * 4 = j * 4 + 4 by omega]
                exact HO.out, hE⟩
              case measure => simp [intOf]; omega
        · obtain rfl : j = 4 := by omega
          go_wp2
          go_ret
          exact ⟨_, rfl, hE, by rw [HP.out]; exact Ints.of_row HO.out (by omega)⟩
set_option maxHeartbeats 8000000 in
set_option maxRecDepth 20000 in
theorem predict_0_8 (ts ls : List Int) (c : Int) (v u : Value) (w : World) (ha : Ints w v ts) (hb : Ints w u ls) (hn : ts.length = 8) (hl : ls.length = 8) (hT : ∀ j, 0 ≤ ts.getD j 0 ∧ ts.getD j 0 ≤ 255) (hL : ∀ j, 0 ≤ ls.getD j 0 ∧ ls.getD j 0 ≤ 255) (hc : 0 ≤ c ∧ c ≤ 255) :
    Calls Tryd.prog 79 #[.int .i64 0, v, u, .int .i64 c] w fun e w' => ∃ u, e = .returned u ∧ Ext w w' ∧ Ints w' u (prdL 0 ts ls c) := by
  obtain ⟨i0, hi, hz0, hz1, hz2⟩ := info_parts infoInt
  obtain ⟨g, off, cap, rfl, -, -⟩ := ha.addr (by omega)
  obtain ⟨g', off', cap', rfl, -, -⟩ := hb.addr (by omega)
  have HM : Hid (meanOf ts ls = (8 + nbF (fun i => ts.getD i 0) (fun i => ls.getD i 0) 8) / (2 * 8)) := by show _ = _; unfold meanOf; rw [hn]; rfl
  have HP : Hid (prdL 0 ts ls c = rowL 64 (prdF 0 ts ls c)) := by show _ = _; unfold prdL; rw [hn]
  rw [hn] at ha ⊢
  rw [hl] at hb ⊢
  have HN := Lib.hid hn
  have HLL := Lib.hid hl
  have HT := Lib.hid hT
  have HL := Lib.hid hL
  clear hn hl hT hL
  go_enter Tryd.func79, Tryd.ntmps79
  go_wp2
  go_loopw [10, 21] (fun sv iv wr => ∃ k : Nat, k ≤ 8 ∧ iv = .int .i64 k ∧ sv = .int .i64 (8 + nbF (fun i => ts.getD i 0) (fun i => ls.getD i 0) k) ∧ Ext w wr) (fun _ iv _ => 8 - (intOf iv).toNat)
  case atStart => exact ⟨0, Nat.zero_le _, rfl, rfl, Ext.refl _⟩
  case round =>
    obtain ⟨k, hk, rfl, rfl, hE⟩ := hrel
    by_cases hlt : k < 8
    · obtain ⟨x, hx'⟩ : ∃ x, ts.getD k 0 = x := ⟨_, rfl⟩
      obtain ⟨y, hy'⟩ : ∃ y, ls.getD k 0 = y := ⟨_, rfl⟩
      have cx := hE.cell (ha.at (get_of_lt (by rw [HN.out]; exact hlt)))
      have cy := hE.cell (hb.at (get_of_lt (by rw [HLL.out]; exact hlt)))
      have bx := HT.out k
      have by' := HL.out k
      have b0 := nbF_bound HT.out HL.out k
      have HS : Hid (nbF (fun i => ts.getD i 0) (fun i => ls.getD i 0) (k + 1) = nbF (fun i => ts.getD i 0) (fun i => ls.getD i 0) k + (x + y)) := by show _ = _; rw [← hx', ← hy']; rfl
      rw [hx'] at cx bx
      rw [hy'] at cy by'
      clear hx' hy'
      revert b0 HS
      generalize nbF (fun i => ts.getD i 0) (fun i => ls.getD i 0) k = s
      intro b0 HS
      have e1 : IntKind.i64.wrap (x + y) = x + y := by rw [IntKind.wrap_i64]; omega
      have e2 : IntKind.i64.wrap (8 + s + (x + y)) = 8 + s + (x + y) := by rw [IntKind.wrap_i64]; omega
      go_wp2
      go_quiet (fail)
      go_wp2
      go_roundw
      case rel => exact ⟨k + 1, by omega, by go_num, by rw [HS.out]; congr 1; omega, hE.drewN _⟩
      case measure => simp [intOf]; omega
    · obtain rfl : k = 8 := by omega
      have b0 := nbF_bound HT.out HL.out 8
      have hB0 := hE.size
      revert b0 HM
      generalize nbF (fun i => ts.getD i 0) (fun i => ls.getD i 0) 8 = s
      intro HM b0
      obtain ⟨mean, hmean⟩ : ∃ mean, (8 + s) / (2 * 8) = mean := ⟨_, rfl⟩
      have hmd : (8 + s) / 16 = mean := hmean
      have HMN : Hid (meanOf ts ls = mean) := by show _ = _; rw [HM.out, hmean]
      clear hmean HM
      go_wp2_with (at_make; refine wpList_make_own _ rfl _ _ 22 rfl w.heap.size 3 i0 (.int .i64 0) 1 Tryd.underlying22 hi hz0 hz1 .i64 .i64 _ 64 rfl rfl rfl (by rw [hz2]; omega) (by unfold maxLen; omega) hB0 ?_; intro w2 hown hgrow)
      have hE2 : Ext w w2 := hE.of_below (Below.grown (Below.refl _ _) hgrow (Nat.le_refl _) (fun k hk => by cases hk)) hB0
      clear hgrow hi hz0 hz1 hz2 hE hB0
      go_wp2
      go_loopw [12, 46] (fun bv jv wr => ∃ j : Nat, j ≤ 8 ∧ jv = .int .i64 j ∧ Hid (wr.ownsRow w.heap.size 3 1 bv (j * 8) ((rowL (j * 8) (prdF 0 ts ls c)).map (Value.int .i64))) ∧ Ext w wr) (fun _ jv _ => 8 - (intOf jv).toNat)
      case atStart => exact ⟨0, Nat.zero_le _, rfl, hown, hE2⟩
      case round =>
        clear hown hE2
        obtain ⟨j, hj, rfl, HO, hE⟩ := hrel
        by_cases hlt : j < 8
        · obtain ⟨y, hy'⟩ : ∃ y, ls.getD j 0 = y := ⟨_, rfl⟩
          have cy := hE.cell (hb.at (get_of_lt (by rw [HLL.out]; exact hlt)))
          have by' := HL.out j
          rw [hy'] at cy by'
          have HY := Lib.hid hy'
          have t1 : decide ((j : Int) < 8) = true := decide_eq_true (by omega)
          clear hy'
          go_wp2
          go_loopw [12, 52] (fun bv iv wr => ∃ i : Nat, i ≤ 8 ∧ iv = .int .i64 i ∧ Hid (wr.ownsRow w.heap.size 3 1 bv (j * 8 + i) ((rowL (j * 8 + i) (prdF 0 ts ls c)).map (Value.int .i64))) ∧ Ext w wr) (fun _ iv _ => 8 - (intOf iv).toNat)
          case atStart => exact ⟨0, Nat.zero_le _, rfl, HO.out, hE⟩
          case round =>
            clear HO hE cy
            obtain ⟨i, hi, rfl, HO, hE⟩ := hrel
            have hB := hE.size
            by_cases hit : i < 8
            · obtain ⟨x, hx'⟩ : ∃ x, ts.getD i 0 = x := ⟨_, rfl⟩
              have cx := hE.cell (ha.at (get_of_lt (by rw [HN.out]; exact hit)))
              have bx := HT.out i
              rw [hx'] at cx bx
              obtain ⟨z, hz⟩ : ∃ z, clipI (y + x - c) = z := ⟨_, rfl⟩
              have HC : Hid (∀ W, Calls Tryd.prog 23 #[.int .i64 (y + x - c)] W fun e w' => e = .returned (.int .i64 z) ∧ W = w') := fun W => by rw [← hz]; exact clip_any _ W
              have HS : Hid ((rowL (j * 8 + i + 1) (prdF 0 ts ls c)).map (Value.int .i64) = (rowL (j * 8 + i) (prdF 0 ts ls c)).map (Value.int .i64) ++ [.int .i64 mean]) := by
                show _ = _
                rw [rowL_succi, List.map_append]
                have e1 : (j * 8 + i) % ts.length = i := by rw [HN.out]; omega
                have e2 : (j * 8 + i) / ts.length = j := by rw [HN.out]; omega
                have e3 : prdF 0 ts ls c (j * 8 + i) = mean := by
                  unfold prdF
                  rw [e1, e2, hx', HY.out, hz, HMN.out]
                  rfl
                rw [e3]
                rfl
              clear hx' hz
              go_wp2_with (at_builtin; refine push_int rfl _ _ 22 rfl Tryd.underlying22 _ _ _ _ rfl HO.out (by show Value.slice (some ⟨wr.heap.size, 0, none⟩) 1 1 = _; simp) hB (by omega) ?_; intro v' w7 h1 h2)
              have HO7 := Lib.hid h1
              have hE7 := hE.of_below h2 (Nat.le_refl _)
              clear h1 h2 HO hE
              go_wp2
              go_roundw
              case rel => exact ⟨i + 1, by omega, by go_num, by
                show World.ownsRow _ _ _ _ _ _ _
                rw [show j * 8 + (i + 1) = j * 8 + i + 1 by omega, HS.out]
                exact HO7.out, hE7⟩
              case measure => simp [intOf]; omega
            · obtain rfl : i = 8 := by omega
              go_wp2
              go_roundw
              case rel => exact ⟨j + 1, by omega, by go_num, by
                show World.ownsRow _ _ _ _ _ _ _
                rw [show (j + 1) * 8 = j * 8 + 8 by omega]
                exact HO.out, hE⟩
              case measure => simp [intOf]; omega
        · obtain rfl : j = 8 := by omega
          go_wp2
          go_ret
          exact ⟨_, rfl, hE, by rw [HP.out]; exact Ints.of_row HO.out (by omega)⟩
set_option maxHeartbeats 8000000 in
set_option maxRecDepth 20000 in
theorem predict_1_8 (ts ls : List Int) (c : Int) (v u : Value) (w : World) (ha : Ints w v ts) (hb : Ints w u ls) (hn : ts.length = 8) (hl : ls.length = 8) (hT : ∀ j, 0 ≤ ts.getD j 0 ∧ ts.getD j 0 ≤ 255) (hL : ∀ j, 0 ≤ ls.getD j 0 ∧ ls.getD j 0 ≤ 255) (hc : 0 ≤ c ∧ c ≤ 255) :
    Calls Tryd.prog 79 #[.int .i64 1, v, u, .int .i64 c] w fun e w' => ∃ u, e = .returned u ∧ Ext w w' ∧ Ints w' u (prdL 1 ts ls c) := by
  obtain ⟨i0, hi, hz0, hz1, hz2⟩ := info_parts infoInt
  obtain ⟨g, off, cap, rfl, -, -⟩ := ha.addr (by omega)
  obtain ⟨g', off', cap', rfl, -, -⟩ := hb.addr (by omega)
  have HM : Hid (meanOf ts ls = (8 + nbF (fun i => ts.getD i 0) (fun i => ls.getD i 0) 8) / (2 * 8)) := by show _ = _; unfold meanOf; rw [hn]; rfl
  have HP : Hid (prdL 1 ts ls c = rowL 64 (prdF 1 ts ls c)) := by show _ = _; unfold prdL; rw [hn]
  rw [hn] at ha ⊢
  rw [hl] at hb ⊢
  have HN := Lib.hid hn
  have HLL := Lib.hid hl
  have HT := Lib.hid hT
  have HL := Lib.hid hL
  clear hn hl hT hL
  go_enter Tryd.func79, Tryd.ntmps79
  go_wp2
  go_loopw [10, 21] (fun sv iv wr => ∃ k : Nat, k ≤ 8 ∧ iv = .int .i64 k ∧ sv = .int .i64 (8 + nbF (fun i => ts.getD i 0) (fun i => ls.getD i 0) k) ∧ Ext w wr) (fun _ iv _ => 8 - (intOf iv).toNat)
  case atStart => exact ⟨0, Nat.zero_le _, rfl, rfl, Ext.refl _⟩
  case round =>
    obtain ⟨k, hk, rfl, rfl, hE⟩ := hrel
    by_cases hlt : k < 8
    · obtain ⟨x, hx'⟩ : ∃ x, ts.getD k 0 = x := ⟨_, rfl⟩
      obtain ⟨y, hy'⟩ : ∃ y, ls.getD k 0 = y := ⟨_, rfl⟩
      have cx := hE.cell (ha.at (get_of_lt (by rw [HN.out]; exact hlt)))
      have cy := hE.cell (hb.at (get_of_lt (by rw [HLL.out]; exact hlt)))
      have bx := HT.out k
      have by' := HL.out k
      have b0 := nbF_bound HT.out HL.out k
      have HS : Hid (nbF (fun i => ts.getD i 0) (fun i => ls.getD i 0) (k + 1) = nbF (fun i => ts.getD i 0) (fun i => ls.getD i 0) k + (x + y)) := by show _ = _; rw [← hx', ← hy']; rfl
      rw [hx'] at cx bx
      rw [hy'] at cy by'
      clear hx' hy'
      revert b0 HS
      generalize nbF (fun i => ts.getD i 0) (fun i => ls.getD i 0) k = s
      intro b0 HS
      have e1 : IntKind.i64.wrap (x + y) = x + y := by rw [IntKind.wrap_i64]; omega
      have e2 : IntKind.i64.wrap (8 + s + (x + y)) = 8 + s + (x + y) := by rw [IntKind.wrap_i64]; omega
      go_wp2
      go_quiet (fail)
      go_wp2
      go_roundw
      case rel => exact ⟨k + 1, by omega, by go_num, by rw [HS.out]; congr 1; omega, hE.drewN _⟩
      case measure => simp [intOf]; omega
    · obtain rfl : k = 8 := by omega
      have b0 := nbF_bound HT.out HL.out 8
      have hB0 := hE.size
      revert b0 HM
      generalize nbF (fun i => ts.getD i 0) (fun i => ls.getD i 0) 8 = s
      intro HM b0
      obtain ⟨mean, hmean⟩ : ∃ mean, (8 + s) / (2 * 8) = mean := ⟨_, rfl⟩
      have hmd : (8 + s) / 16 = mean := hmean
      have HMN : Hid (meanOf ts ls = mean) := by show _ = _; rw [HM.out, hmean]
      clear hmean HM
      go_wp2_with (at_make; refine wpList_make_own _ rfl _ _ 22 rfl w.heap.size 3 i0 (.int .i64 0) 1 Tryd.underlying22 hi hz0 hz1 .i64 .i64 _ 64 rfl rfl rfl (by rw [hz2]; omega) (by unfold maxLen; omega) hB0 ?_; intro w2 hown hgrow)
      have hE2 : Ext w w2 := hE.of_below (Below.grown (Below.refl _ _) hgrow (Nat.le_refl _) (fun k hk => by cases hk)) hB0
      clear hgrow hi hz0 hz1 hz2 hE hB0
      go_wp2
      go_loopw [12, 46] (fun bv jv wr => ∃ j : Nat, j ≤ 8 ∧ jv = .int .i64 j ∧ Hid (wr.ownsRow w.heap.size 3 1 bv (j * 8) ((rowL (j * 8) (prdF 1 ts ls c)).map (Value.int .i64))) ∧ Ext w wr) (fun _ jv _ => 8 - (intOf jv).toNat)
      case atStart => exact ⟨0, Nat.zero_le _, rfl, hown, hE2⟩
      case round =>
        clear hown hE2
        obtain ⟨j, hj, rfl, HO, hE⟩ := hrel
        by_cases hlt : j < 8
        · obtain ⟨y, hy'⟩ : ∃ y, ls.getD j 0 = y := ⟨_, rfl⟩
          have cy := hE.cell (hb.at (get_of_lt (by rw [HLL.out]; exact hlt)))
          have by' := HL.out j
          rw [hy'] at cy by'
          have HY := Lib.hid hy'
          have t1 : decide ((j : Int) < 8) = true := decide_eq_true (by omega)
          clear hy'
          go_wp2
          go_loopw [12, 52] (fun bv iv wr => ∃ i : Nat, i ≤ 8 ∧ iv = .int .i64 i ∧ Hid (wr.ownsRow w.heap.size 3 1 bv (j * 8 + i) ((rowL (j * 8 + i) (prdF 1 ts ls c)).map (Value.int .i64))) ∧ Ext w wr) (fun _ iv _ => 8 - (intOf iv).toNat)
          case atStart => exact ⟨0, Nat.zero_le _, rfl, HO.out, hE⟩
          case round =>
            clear HO hE cy
            obtain ⟨i, hi, rfl, HO, hE⟩ := hrel
            have hB := hE.size
            by_cases hit : i < 8
            · obtain ⟨x, hx'⟩ : ∃ x, ts.getD i 0 = x := ⟨_, rfl⟩
              have cx := hE.cell (ha.at (get_of_lt (by rw [HN.out]; exact hit)))
              have bx := HT.out i
              rw [hx'] at cx bx
              obtain ⟨z, hz⟩ : ∃ z, clipI (y + x - c) = z := ⟨_, rfl⟩
              have HC : Hid (∀ W, Calls Tryd.prog 23 #[.int .i64 (y + x - c)] W fun e w' => e = .returned (.int .i64 z) ∧ W = w') := fun W => by rw [← hz]; exact clip_any _ W
              have HS : Hid ((rowL (j * 8 + i + 1) (prdF 1 ts ls c)).map (Value.int .i64) = (rowL (j * 8 + i) (prdF 1 ts ls c)).map (Value.int .i64) ++ [.int .i64 x]) := by
                show _ = _
                rw [rowL_succi, List.map_append]
                have e1 : (j * 8 + i) % ts.length = i := by rw [HN.out]; omega
                have e2 : (j * 8 + i) / ts.length = j := by rw [HN.out]; omega
                have e3 : prdF 1 ts ls c (j * 8 + i) = x := by
                  unfold prdF
                  rw [e1, e2, hx', HY.out, hz, HMN.out]
                  rfl
                rw [e3]
                rfl
              clear hx' hz
              go_wp2_with (at_builtin; refine push_int rfl _ _ 22 rfl Tryd.underlying22 _ _ _ _ rfl HO.out (by show Value.slice (some ⟨wr.heap.size, 0, none⟩) 1 1 = _; simp) hB (by omega) ?_; intro v' w7 h1 h2)
              have HO7 := Lib.hid h1
              have hE7 := hE.of_below h2 (Nat.le_refl _)
              clear h1 h2 HO hE
              go_wp2
              go_roundw
              case rel => exact ⟨i + 1, by omega, by go_num, by
                show World.ownsRow _ _ _ _ _ _ _
                rw [show j * 8 + (i + 1) = j * 8 + i + 1 by omega, HS.out]
                exact HO7.out, hE7⟩
              case measure => simp [intOf]; omega
            · obtain rfl : i = 8 := by omega
              go_wp2
              go_roundw
              case rel => exact ⟨j + 1, by omega, by go_num, by
                show World.ownsRow _ _ _ _ _ _ _
                rw [show (j + 1) * 8 = j * 8 + 8 by omega]
                exact HO.out, hE⟩
              case measure => simp [intOf]; omega
        · obtain rfl : j = 8 := by omega
          go_wp2
          go_ret
          exact ⟨_, rfl, hE, by rw [HP.out]; exact Ints.of_row HO.out (by omega)⟩
set_option maxHeartbeats 8000000 in
set_option maxRecDepth 20000 in
theorem predict_2_8 (ts ls : List Int) (c : Int) (v u : Value) (w : World) (ha : Ints w v ts) (hb : Ints w u ls) (hn : ts.length = 8) (hl : ls.length = 8) (hT : ∀ j, 0 ≤ ts.getD j 0 ∧ ts.getD j 0 ≤ 255) (hL : ∀ j, 0 ≤ ls.getD j 0 ∧ ls.getD j 0 ≤ 255) (hc : 0 ≤ c ∧ c ≤ 255) :
    Calls Tryd.prog 79 #[.int .i64 2, v, u, .int .i64 c] w fun e w' => ∃ u, e = .returned u ∧ Ext w w' ∧ Ints w' u (prdL 2 ts ls c) := by
  obtain ⟨i0, hi, hz0, hz1, hz2⟩ := info_parts infoInt
  obtain ⟨g, off, cap, rfl, -, -⟩ := ha.addr (by omega)
  obtain ⟨g', off', cap', rfl, -, -⟩ := hb.addr (by omega)
  have HM : Hid (meanOf ts ls = (8 + nbF (fun i => ts.getD i 0) (fun i => ls.getD i 0) 8) / (2 * 8)) := by show _ = _; unfold meanOf; rw [hn]; rfl
  have HP : Hid (prdL 2 ts ls c = rowL 64 (prdF 2 ts ls c)) := by show _ = _; unfold prdL; rw [hn]
  rw [hn] at ha ⊢
  rw [hl] at hb ⊢
  have HN := Lib.hid hn
  have HLL := Lib.hid hl
  have HT := Lib.hid hT
  have HL := Lib.hid hL
  clear hn hl hT hL
  go_enter Tryd.func79, Tryd.ntmps79
  go_wp2
  go_loopw [10, 21] (fun sv iv wr => ∃ k : Nat, k ≤ 8 ∧ iv = .int .i64 k ∧ sv = .int .i64 (8 + nbF (fun i => ts.getD i 0) (fun i => ls.getD i 0) k) ∧ Ext w wr) (fun _ iv _ => 8 - (intOf iv).toNat)
  case atStart => exact ⟨0, Nat.zero_le _, rfl, rfl, Ext.refl _⟩
  case round =>
    obtain ⟨k, hk, rfl, rfl, hE⟩ := hrel
    by_cases hlt : k < 8
    · obtain ⟨x, hx'⟩ : ∃ x, ts.getD k 0 = x := ⟨_, rfl⟩
      obtain ⟨y, hy'⟩ : ∃ y, ls.getD k 0 = y := ⟨_, rfl⟩
      have cx := hE.cell (ha.at (get_of_lt (by rw [HN.out]; exact hlt)))
      have cy := hE.cell (hb.at (get_of_lt (by rw [HLL.out]; exact hlt)))
      have bx := HT.out k
      have by' := HL.out k
      have b0 := nbF_bound HT.out HL.out k
      have HS : Hid (nbF (fun i => ts.getD i 0) (fun i => ls.getD i 0) (k + 1) = nbF (fun i => ts.getD i 0) (fun i => ls.getD i 0) k + (x + y)) := by show _ = _; rw [← hx', ← hy']; rfl
      rw [hx'] at cx bx
      rw [hy'] at cy by'
      clear hx' hy'
      revert b0 HS
      generalize nbF (fun i => ts.getD i 0) (fun i => ls.getD i 0) k = s
      intro b0 HS
      have e1 : IntKind.i64.wrap (x + y) = x + y := by rw [IntKind.wrap_i64]; omega
      have e2 : IntKind.i64.wrap (8 + s + (x + y)) = 8 + s + (x + y) := by rw [IntKind.wrap_i64]; omega
      go_wp2
      go_quiet (fail)
      go_wp2
      go_roundw
      case rel => exact ⟨k + 1, by omega, by go_num, by rw [HS.out]; congr 1; omega, hE.drewN _⟩
      case measure => simp [intOf]; omega
    · obtain rfl : k = 8 := by omega
      have b0 := nbF_bound HT.out HL.out 8
      have hB0 := hE.size
      revert b0 HM
      generalize nbF (fun i => ts.getD i 0) (fun i => ls.getD i 0) 8 = s
      intro HM b0
      obtain ⟨mean, hmean⟩ : ∃ mean, (8 + s) / (2 * 8) = mean := ⟨_, rfl⟩
      have hmd : (8 + s) / 16 = mean := hmean
      have HMN : Hid (meanOf ts ls = mean) := by show _ = _; rw [HM.out, hmean]
      clear hmean HM
      go_wp2_with (at_make; refine wpList_make_own _ rfl _ _ 22 rfl w.heap.size 3 i0 (.int .i64 0) 1 Tryd.underlying22 hi hz0 hz1 .i64 .i64 _ 64 rfl rfl rfl (by rw [hz2]; omega) (by unfold maxLen; omega) hB0 ?_; intro w2 hown hgrow)
      have hE2 : Ext w w2 := hE.of_below (Below.grown (Below.refl _ _) hgrow (Nat.le_refl _) (fun k hk => by cases hk)) hB0
      clear hgrow hi hz0 hz1 hz2 hE hB0
      go_wp2
      go_loopw [12, 46] (fun bv jv wr => ∃ j : Nat, j ≤ 8 ∧ jv = .int .i64 j ∧ Hid (wr.ownsRow w.heap.size 3 1 bv (j * 8) ((rowL (j * 8) (prdF 2 ts ls c)).map (Value.int .i64))) ∧ Ext w wr) (fun _ jv _ => 8 - (intOf jv).toNat)
      case atStart => exact ⟨0, Nat.zero_le _, rfl, hown, hE2⟩
      case round =>
        clear hown hE2
        obtain ⟨j, hj, rfl, HO, hE⟩ := hrel
        by_cases hlt : j < 8
        · obtain ⟨y, hy'⟩ : ∃ y, ls.getD j 0 = y := ⟨_, rfl⟩
          have cy := hE.cell (hb.at (get_of_lt (by rw [HLL.out]; exact hlt)))
          have by' := HL.out j
          rw [hy'] at cy by'
          have HY := Lib.hid hy'
          have t1 : decide ((j : Int) < 8) = true := decide_eq_true (by omega)
          clear hy'
          go_wp2
          go_loopw [12, 52] (fun bv iv wr => ∃ i : Nat, i ≤ 8 ∧ iv = .int .i64 i ∧ Hid (wr.ownsRow w.heap.size 3 1 bv (j * 8 + i) ((rowL (j * 8 + i) (prdF 2 ts ls c)).map (Value.int .i64))) ∧ Ext w wr) (fun _ iv _ => 8 - (intOf iv).toNat)
          case atStart => exact ⟨0, Nat.zero_le _, rfl, HO.out, hE⟩
          case round =>
            clear HO hE cy
            obtain ⟨i, hi, rfl, HO, hE⟩ := hrel
            have hB := hE.size
            by_cases hit : i < 8
            · obtain ⟨x, hx'⟩ : ∃ x, ts.getD i 0 = x := ⟨_, rfl⟩
              have cx := hE.cell (ha.at (get_of_lt (by rw [HN.out]; exact hit)))
              have bx := HT.out i
              rw [hx'] at cx bx
              obtain ⟨z, hz⟩ : ∃ z, clipI (y + x - c) = z := ⟨_, rfl⟩
              have HC : Hid (∀ W, Calls Tryd.prog 23 #[.int .i64 (y + x - c)] W fun e w' => e = .returned (.int .i64 z) ∧ W = w') := fun W => by rw [← hz]; exact clip_any _ W
              have HS : Hid ((rowL (j * 8 + i + 1) (prdF 2 ts ls c)).map (Value.int .i64) = (rowL (j * 8 + i) (prdF 2 ts ls c)).map (Value.int .i64) ++ [.int .i64 y]) := by
                show _ = _
                rw [rowL_succi, List.map_append]
                have e1 : (j * 8 + i) % ts.length = i := by rw [HN.out]; omega
                have e2 : (j * 8 + i) / ts.length = j := by rw [HN.out]; omega
                have e3 : prdF 2 ts ls c (j * 8 + i) = y := by
                  unfold prdF
                  rw [e1, e2, hx', HY.out, hz, HMN.out]
                  rfl
                rw [e3]
                rfl
              clear hx' hz
              go_wp2_with (at_builtin; refine push_int rfl _ _ 22 rfl Tryd.underlying22 _ _ _ _ rfl HO.out (by show Value.slice (some ⟨wr.heap.size, 0, none⟩) 1 1 = _; simp) hB (by omega) ?_; intro v' w7 h1 h2)
              have HO7 := Lib.hid h1
              have hE7 := hE.of_below h2 (Nat.le_refl _)
              clear h1 h2 HO hE
              go_wp2
              go_roundw
              case rel => exact ⟨i + 1, by omega, by go_num, by
                show World.ownsRow _ _ _ _ _ _ _
                rw [show j * 8 + (i + 1) = j * 8 + i + 1 by omega, HS.out]
                exact HO7.out, hE7⟩
              case measure => simp [intOf]; omega
            · obtain rfl : i = 8 := by omega
              go_wp2
              go_roundw
              case rel => exact ⟨j + 1, by omega, by go_num, by
                show World.ownsRow _ _ _ _ _ _ _
                rw [show (j + 1) * 8 = j * 8 + 8 by omega]
                exact HO.out, hE⟩
              case measure => simp [intOf]; omega
        · obtain rfl : j = 8 := by omega
          go_wp2
          go_ret
          exact ⟨_, rfl, hE, by rw [HP.out]; exact Ints.of_row HO.out (by omega)⟩
set_option maxHeartbeats 8000000 in
set_option maxRecDepth 20000 in
theorem predict_3_8 (ts ls : List Int) (c : Int) (v u : Value) (w : World) (ha : Ints w v ts) (hb : Ints w u ls) (hn : ts.length = 8) (hl : ls.length = 8) (hT : ∀ j, 0 ≤ ts.getD j 0 ∧ ts.getD j 0 ≤ 255) (hL : ∀ j, 0 ≤ ls.getD j 0 ∧ ls.getD j 0 ≤ 255) (hc : 0 ≤ c ∧ c ≤ 255) :
    Calls Tryd.prog 79 #[.int .i64 3, v, u, .int .i64 c] w fun e w' => ∃ u, e = .returned u ∧ Ext w w' ∧ Ints w' u (prdL 3 ts ls c) := by
  obtain ⟨i0, hi, hz0, hz1, hz2⟩ := info_parts infoInt
  obtain ⟨g, off, cap, rfl, -, -⟩ := ha.addr (by omega)
  obtain ⟨g', off', cap', rfl, -, -⟩ := hb.addr (by omega)
  have HM : Hid (meanOf ts ls = (8 + nbF (fun i => ts.getD i 0) (fun i => ls.getD i 0) 8) / (2 * 8)) := by show _ = _; unfold meanOf; rw [hn]; rfl
  have HP : Hid (prdL 3 ts ls c = rowL 64 (prdF 3 ts ls c)) := by show _ = _; unfold prdL; rw [hn]
  rw [hn] at ha ⊢
  rw [hl] at hb ⊢
  have HN := Lib.hid hn
  have HLL := Lib.hid hl
  have HT := Lib.hid hT
  have HL := Lib.hid hL
  clear hn hl hT hL
  go_enter Tryd.func79, Tryd.ntmps79
  go_wp2
  go_loopw [10, 21] (fun sv iv wr => ∃ k : Nat, k ≤ 8 ∧ iv = .int .i64 k ∧ sv = .int .i64 (8 + nbF (fun i => ts.getD i 0) (fun i => ls.getD i 0) k) ∧ Ext w wr) (fun _ iv _ => 8 - (intOf iv).toNat)
  case atStart => exact ⟨0, Nat.zero_le _, rfl, rfl, Ext.refl _⟩
  case round =>
    obtain ⟨k, hk, rfl, rfl, hE⟩ := hrel
    by_cases hlt : k < 8
    · obtain ⟨x, hx'⟩ : ∃ x, ts.getD k 0 = x := ⟨_, rfl⟩
      obtain ⟨y, hy'⟩ : ∃ y, ls.getD k 0 = y := ⟨_, rfl⟩
      have cx := hE.cell (ha.at (get_of_lt (by rw [HN.out]; exact hlt)))
      have cy := hE.cell (hb.at (get_of_lt (by rw [HLL.out]; exact hlt)))
      have bx := HT.out k
      have by' := HL.out k
      have b0 := nbF_bound HT.out HL.out k
      have HS : Hid (nbF (fun i => ts.getD i 0) (fun i => ls.getD i 0) (k + 1) = nbF (fun i => ts.getD i 0) (fun i => ls.getD i 0) k + (x + y)) := by show _ = _; rw [← hx', ← hy']; rfl
      rw [hx'] at cx bx
      rw [hy'] at cy by'
      clear hx' hy'
      revert b0 HS
      generalize nbF (fun i => ts.getD i 0) (fun i => ls.getD i 0) k = s
      intro b0 HS
      have e1 : IntKind.i64.wrap (x + y) = x + y := by rw [IntKind.wrap_i64]; omega
      have e2 : IntKind.i64.wrap (8 + s + (x + y)) = 8 + s + (x + y) := by rw [IntKind.wrap_i64]; omega
      go_wp2
      go_quiet (fail)
      go_wp2
      go_roundw
      case rel => exact ⟨k + 1, by omega, by go_num, by rw [HS.out]; congr 1; omega, hE.drewN _⟩
      case measure => simp [intOf]; omega
    · obtain rfl : k = 8 := by omega
      have b0 := nbF_bound HT.out HL.out 8
      have hB0 := hE.size
      revert b0 HM
      generalize nbF (fun i => ts.getD i 0) (fun i => ls.getD i 0) 8 = s
      intro HM b0
      obtain ⟨mean, hmean⟩ : ∃ mean, (8 + s) / (2 * 8) = mean := ⟨_, rfl⟩
      have hmd : (8 + s) / 16 = mean := hmean
      have HMN : Hid (meanOf ts ls = mean) := by show _ = _; rw [HM.out, hmean]
      clear hmean HM
      go_wp2_with (at_make; refine wpList_make_own _ rfl _ _ 22 rfl w.heap.size 3 i0 (.int .i64 0) 1 Tryd.underlying22 hi hz0 hz1 .i64 .i64 _ 64 rfl rfl rfl (by rw [hz2]; omega) (by unfold maxLen; omega) hB0 ?_; intro w2 hown hgrow)
      have hE2 : Ext w w2 := hE.of_below (Below.grown (Below.refl _ _) hgrow (Nat.le_refl _) (fun k hk => by cases hk)) hB0
      clear hgrow hi hz0 hz1 hz2 hE hB0
      go_wp2
      go_loopw [12, 46] (fun bv jv wr => ∃ j : Nat, j ≤ 8 ∧ jv = .int .i64 j ∧ Hid (wr.ownsRow w.heap.size 3 1 bv (j * 8) ((rowL (j * 8) (prdF 3 ts ls c)).map (Value.int .i64))) ∧ Ext w wr) (fun _ jv _ => 8 - (intOf jv).toNat)
      case atStart => exact ⟨0, Nat.zero_le _, rfl, hown, hE2⟩
      case round =>
        clear hown hE2
        obtain ⟨j, hj, rfl, HO, hE⟩ := hrel
        by_cases hlt : j < 8
        · obtain ⟨y, hy'⟩ : ∃ y, ls.getD j 0 = y := ⟨_, rfl⟩
          have cy := hE.cell (hb.at (get_of_lt (by rw [HLL.out]; exact hlt)))
          have by' := HL.out j
          rw [hy'] at cy by'
          have HY := Lib.hid hy'
          have t1 : decide ((j : Int) < 8) = true := decide_eq_true (by omega)
          clear hy'
          go_wp2
          go_loopw [12, 52] (fun bv iv wr => ∃ i : Nat, i ≤ 8 ∧ iv = .int .i64 i ∧ Hid (wr.ownsRow w.heap.size 3 1 bv (j * 8 + i) ((rowL (j * 8 + i) (prdF 3 ts ls c)).map (Value.int .i64))) ∧ Ext w wr) (fun _ iv _ => 8 - (intOf iv).toNat)
          case atStart => exact ⟨0, Nat.zero_le _, rfl, HO.out, hE⟩
          case round =>
            clear HO hE cy
            obtain ⟨i, hi, rfl, HO, hE⟩ := hrel
            have hB := hE.size
            by_cases hit : i < 8
            · obtain ⟨x, hx'⟩ : ∃ x, ts.getD i 0 = x := ⟨_, rfl⟩
              have cx := hE.cell (ha.at (get_of_lt (by rw [HN.out]; exact hit)))
              have bx := HT.out i
              rw [hx'] at cx bx
              obtain ⟨z, hz⟩ : ∃ z, clipI (y + x - c) = z := ⟨_, rfl⟩
              have HC : Hid (∀ W, Calls Tryd.prog 23 #[.int .i64 (y + x - c)] W fun e w' => e = .returned (.int .i64 z) ∧ W = w') := fun W => by rw [← hz]; exact clip_any _ W
              have HS : Hid ((rowL (j * 8 + i + 1) (prdF 3 ts ls c)).map (Value.int .i64) = (rowL (j * 8 + i) (prdF 3 ts ls c)).map (Value.int .i64) ++ [.int .i64 z]) := by
                show _ = _
                rw [rowL_succi, List.map_append]
                have e1 : (j * 8 + i) % ts.length = i := by rw [HN.out]; omega
                have e2 : (j * 8 + i) / ts.length = j := by rw [HN.out]; omega
                have e3 : prdF 3 ts ls c (j * 8 + i) = z := by
                  unfold prdF
                  rw [e1, e2, hx', HY.out, hz, HMN.out]
                  rfl
                rw [e3]
                rfl
              clear hx' hz
              go_wp2_with fail
              refine (HC.out _).mono ?_; rintro e w8 ⟨rfl, rfl⟩
              go_wp2_with (at_builtin; refine push_int rfl _ _ 22 rfl Tryd.underlying22 _ _ _ _ rfl HO.out (by show Value.slice (some ⟨wr.heap.size, 0, none⟩) 1 1 = _; simp) hB (by omega) ?_; intro v' w7 h1 h2)
              have HO7 := Lib.hid h1
              have hE7 := hE.of_below h2 (Nat.le_refl _)
              clear h1 h2 HO hE
              go_wp2
              go_roundw
              case rel => exact ⟨i + 1, by omega, by go_num, by
                show World.ownsRow _ _ _ _ _ _ _
                rw [show j * 8 + (i + 1) = j * 8 + i + 1 by omega, HS.out]
                exact HO7.out, hE7⟩
              case measure => simp [intOf]; omega
            · obtain rfl : i = 8 := by omega
              go_wp2
              go_roundw
              case rel => exact ⟨j + 1, by omega, by go_num, by
                show World.ownsRow _ _ _ _ _ _ _
                rw [show (j + 1) * 8 = j * 8 + 8 by omega]
                exact HO.out, hE⟩
              case measure => simp [intOf]; omega
        · obtain rfl : j = 8 := by omega
          go_wp2
          go_ret
          exact ⟨_, rfl, hE, by rw [HP.out]; exact Ints.of_row HO.out (by omega)⟩
end Go.Proofs.YtkighedghgcdjaaDoor
