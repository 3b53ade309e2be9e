/- kinlaw23.Few, gop.isGroup, isBegin, Sizes, May. -/
import Derived.Test.YtlaedbglclmheaaGreatDoorZg
import Derived.Test.YtlaedbglclmheaaGreatDoorZf
import Derived.Test.YtlaedbglclmheaaGreatDoorZc
namespace Go.Proofs.YtlaedbglclmheaaGreatDoor
set_option linter.unusedVariables false
set_option linter.unusedSimpArgs false
open Go.RowKit Go.Extern.Stop Go.Stop Go.Extern

set_option maxRecDepth 20000 in
set_option maxHeartbeats 2000000 in
theorem few23_any (L : List Cd) (v : Value) (w : World) (h : Cds w v L) : Calls Tryz.prog 11 #[v] w fun e w' => e = .returned (.bool (fewC L)) ∧ Ext w w' := by
  obtain ⟨a, cap, rfl⟩ := h.form
  obtain ⟨n, hn⟩ : ∃ n, n = L.length := ⟨_, rfl⟩
  have HN := Lib.hid hn
  rw [← hn] at h ⊢
  have AG := Lib.hid h.had
  clear hn
  have r2 := mn2
  go_enter Tryz.func11, Tryz.ntmps11
  go_wp2
  go_loopw [3, 4] (fun sv iv wr => ∃ k : Nat, k ≤ n ∧ k ≤ 40 ∧ iv = .int .i64 k ∧ sv = .int .i64 (cdN L k) ∧ Ext w wr) (fun _ iv _ => n - (intOf iv).toNat)
  case atStart => exact ⟨0, Nat.zero_le _, by omega, rfl, rfl, Ext.refl _⟩
  case round =>
    obtain ⟨k, hk, hk2, rfl, rfl, hE⟩ := hrel
    have b0 := cdN_bound L k
    by_cases hlt : k < n
    · by_cases h40 : k < 40
      · obtain ⟨g, off, rfl⟩ := AG.out (by omega)
        obtain ⟨f, hf⟩ : ∃ f, L[k]? = some f := ⟨_, List.getElem?_eq_getElem (by rw [← HN.out]; exact hlt)⟩
        obtain ⟨ra, rn, rc, c0, c1, c2, c3⟩ := (h.at hf).ext hE
        obtain ⟨ra', rc', e⟩ := c2.form
        simp only [Value.slice.injEq] at e
        obtain ⟨rfl, rfl, rfl⟩ := e
        have HS : Hid (cdN L (k + 1) = cdN L k + min ((f.2.length : Nat) : Int) 20001) := by show cdN L k + _ = _; rw [List.getD, hf]; rfl
        have bl : (0 : Int) ≤ (f.2.length : Int) := by omega
        clear c2 c3 hf
        revert HS b0 c1 bl
        generalize cdN L k = s
        generalize f.2.length = m
        intro b0 c1 HS bl
        have e1 : IntKind.i64.wrap (s + min (m : Int) 20001) = s + min (m : Int) 20001 := by rw [IntKind.wrap_i64]; omega
        go_wp2
        go_roundw
        case rel => exact ⟨k + 1, by omega, by omega, by go_num, by rw [HS.out], hE⟩
        case measure => simp [intOf]; omega
      · have h41 : ¬ n ≤ 40 := by omega
        have HR : Hid (fewC L = false) := by show _ = _; unfold fewC; rw [← HN.out]; simp [h41]
        have k1 : (40 : Int) < (n : Int) := by omega
        clear h41 b0
        go_wp2
        go_ret
        exact ⟨by rw [HR.out]; rfl, hE⟩
    · have h41 : n ≤ 40 := by omega
      have HR : Hid (fewC L = decide (cdN L k ≤ 20000)) := by show _ = _; unfold fewC; rw [← HN.out, show min n 40 = k by omega]; simp [h41]
      have k1 : (n : Int) ≤ 40 := by omega
      revert HR b0
      generalize cdN L k = s
      intro b0 HR
      clear h41
      by_cases hs : s ≤ 20000
      · have t1 : decide (s ≤ 20000) = true := decide_eq_true hs
        go_wp2
        go_ret
        exact ⟨by rw [HR.out, t1]; rfl, hE⟩
      · have t1 : decide (s ≤ 20000) = false := decide_eq_false hs
        go_wp2
        go_ret
        exact ⟨by rw [HR.out, t1]; rfl, hE⟩
set_option maxRecDepth 20000 in
set_option maxHeartbeats 2000000 in
theorem grp_any (n f c : Int) (w : World) : Calls Tryz.prog 51 #[.int .i64 n, .agg #[.int .i64 f, .int .i64 c]] w fun e w' => e = .returned (.bool (grpB n f c)) ∧ Ext w w' := by
  have X1 := (Ext.refl w).alloc (.cells #[.int .i64 f, .int .i64 c] 23)
  by_cases h1 : 0 ≤ n
  rotate_left
  · have HR : Hid (grpB n f c = false) := by show _ = _; unfold grpB; rw [decide_eq_false h1]; rfl
    have t1 : n < 0 := by omega
    clear h1
    go_enter Tryz.func51, Tryz.ntmps51
    go_wp2
    go_ret
    exact ⟨by rw [HR.out]; rfl, X1⟩
  by_cases h2 : n < 16
  rotate_left
  · have HR : Hid (grpB n f c = false) := by show _ = _; unfold grpB; rw [decide_eq_false h2]; simp
    have t1 : 16 ≤ n := by omega
    clear h2
    go_enter Tryz.func51, Tryz.ntmps51
    go_wp2
    go_ret
    exact ⟨by rw [HR.out]; rfl, X1⟩
  by_cases h3 : 0 ≤ f
  rotate_left
  · have HR : Hid (grpB n f c = false) := by show _ = _; unfold grpB; rw [decide_eq_false h3]; simp
    have t1 : f < 0 := by omega
    clear h3
    go_enter Tryz.func51, Tryz.ntmps51
    go_wp2
    go_ret
    exact ⟨by rw [HR.out]; rfl, X1⟩
  by_cases h4 : f < 16
  rotate_left
  · have HR : Hid (grpB n f c = false) := by show _ = _; unfold grpB; rw [decide_eq_false h4]; simp
    have t1 : 16 ≤ f := by omega
    clear h4
    go_enter Tryz.func51, Tryz.ntmps51
    go_wp2
    go_ret
    exact ⟨by rw [HR.out]; rfl, X1⟩
  by_cases h5 : 1 ≤ c
  rotate_left
  · have HR : Hid (grpB n f c = false) := by show _ = _; unfold grpB; rw [decide_eq_false h5]; simp
    have t1 : c < 1 := by omega
    clear h5
    go_enter Tryz.func51, Tryz.ntmps51
    go_wp2
    go_ret
    exact ⟨by rw [HR.out]; rfl, X1⟩
  by_cases h6 : c ≤ 16
  · have HR : Hid (grpB n f c = true) := by show _ = _; rw [grp_iff]; omega
    go_enter Tryz.func51, Tryz.ntmps51
    go_wp2
    go_ret
    exact ⟨by rw [HR.out]; rfl, X1⟩
  · have HR : Hid (grpB n f c = false) := by show _ = _; unfold grpB; rw [decide_eq_false h6]; simp
    have t1 : 16 < c := by omega
    have t2 : decide (c ≤ 16) = false := decide_eq_false h6
    clear h6
    go_enter Tryz.func51, Tryz.ntmps51
    go_wp2
    go_ret
    exact ⟨by rw [HR.out]; rfl, X1⟩
theorem beg_any (k : Int) (w : World) : Calls Tryz.prog 53 #[.int .i64 k] w fun e w' => e = .returned (.bool (begB k)) ∧ w = w' := by
  cases h1 : (k == 1) with
  | true =>
    have HR : Hid (begB k = true) := by show _ = _; unfold begB; rw [h1]; rfl
    go_enter Tryz.func53, Tryz.ntmps53
    go_wp2
    go_ret
    exact ⟨by rw [HR.out]; rfl, rfl⟩
  | false =>
    cases h2 : (k == 4) with
    | true =>
      have HR : Hid (begB k = true) := by show _ = _; unfold begB; rw [h1, h2]; rfl
      go_enter Tryz.func53, Tryz.ntmps53
      go_wp2
      go_ret
      exact ⟨by rw [HR.out]; rfl, rfl⟩
    | false =>
      have HR : Hid (begB k = false) := by show _ = _; unfold begB; rw [h1, h2]; rfl
      go_enter Tryz.func53, Tryz.ntmps53
      go_wp2
      go_ret
      exact ⟨by rw [HR.out]; rfl, rfl⟩
theorem rowL_congrg {N : Nat} {f g : Nat → Int} (h : ∀ j, j < N → f j = g j) : rowL N f = rowL N g := by
  unfold rowL
  apply List.map_congr_left
  intro j hj
  exact h j (List.mem_range.1 hj)
theorem zeros_rowg (n : Nat) : (madeCells (Value.int .i64 0).cells (n * 1)).toList = (rowL n fun _ => 0).map (Value.int .i64) := by
  apply List.ext_getElem?
  intro j
  by_cases hj : j < n <;> simp [madeCells, rowL, Value.cells, hj, Nat.mod_one]
/-- what each coded frame takes -/
def gszV (L : List Cd) : List Int := L.map fun c => ((c.2.length : Nat) : Int) + 8
set_option maxRecDepth 20000 in
set_option maxHeartbeats 2000000 in
theorem gsizes_any (L : List Cd) (v : Value) (w : World) (h : Cds w v L) (hl : L.length ≤ 100000) (hs : Hid (∀ (q : Nat) (c : Cd), L[q]? = some c → c.2.length ≤ 1000000)) :
    Calls Tryz.prog 22 #[v] w fun e w' => ∃ u, e = .returned u ∧ w'.ownsRow w.heap.size 3 1 u (gszV L).length ((gszV L).map (Value.int .i64)) ∧ Ext w w' := by
  obtain ⟨i0, hi, hz0, hz1, hz2⟩ := info_parts infoInt
  obtain ⟨a, cap, rfl⟩ := h.form
  obtain ⟨n, hn⟩ : ∃ n, n = L.length := ⟨_, rfl⟩
  have HN := Lib.hid hn
  have HG : Hid (gszV L = rowL n fun j => (((L.getD j (0, [])).2.length : Nat) : Int) + 8) := by
    show _ = _
    unfold gszV rowL
    apply List.ext_getElem?
    intro j
    rw [List.getElem?_map, List.getElem?_map]
    by_cases hj : j < n
    · rw [List.getElem?_range hj, List.getElem?_eq_getElem (by rw [← hn]; exact hj)]
      simp only [Option.map_some]
      rw [List.getD, List.getElem?_eq_getElem (by rw [← hn]; exact hj)]
      rfl
    · rw [List.getElem?_eq_none (by rw [← hn]; omega), List.getElem?_eq_none (by rw [List.length_range]; omega)]
      rfl
  rw [HG.out, rowL_length]
  rw [← hn] at h hl ⊢
  have AG := Lib.hid h.had
  have HC := Lib.hid h
  clear hn h HG
  generalize hF : (fun j => (((L.getD j (0, [])).2.length : Nat) : Int) + 8) = F
  have HF := Lib.hid hF
  clear hF
  go_enter Tryz.func22, Tryz.ntmps22
  go_wp2_with (at_make; refine wpList_make_full _ rfl _ _ 49 rfl w.heap.size 3 i0 (.int .i64 0) 1 Tryz.underlying49 hi hz0 hz1 .i64 .i64 _ _ n rfl rfl rfl rfl (by rw [hz2]; omega) (by unfold maxLen; omega) (Nat.le_refl _) ?_; intro w2 hown hgrow)
  have hE : Ext w w2 := Below.grown (Ext.refl w) hgrow (Nat.le_refl _) (fun k hk => by cases hk)
  rw [zeros_rowg] at hown
  clear hgrow hi hz0 hz1 hz2
  go_wp2
  go_loopw [11] (fun iv wr => ∃ k : Nat, k ≤ n ∧ iv = .int .i64 k ∧ Hid (wr.ownsRow w.heap.size 3 1 (.slice (some ⟨w.heap.size, 0, none⟩) n n) n ((rowL n fun j => if j < k then F j else 0).map (Value.int .i64))) ∧ Ext w wr) (fun iv _ => n - (intOf iv).toNat)
  case atStart => exact ⟨0, Nat.zero_le _, rfl, by show World.ownsRow _ _ _ _ _ _ _; simpa using hown, hE⟩
  case round =>
    obtain ⟨k, hk, rfl, HO, hEr⟩ := hrel
    by_cases hlt : k < n
    · obtain ⟨c, hc⟩ : ∃ c, L[k]? = some c := ⟨_, List.getElem?_eq_getElem (by rw [← HN.out]; exact hlt)⟩
      obtain ⟨g, off, rfl⟩ := AG.out (by omega)
      obtain ⟨ca, cn, cc, k0, k1, k2, k3⟩ := (HC.out.ext hEr).at hc
      have hcl := hs.out k c hc
      have HFk : Hid (F k = ((c.2.length : Nat) : Int) + 8) := by show _ = _; rw [← HF.out]; show (((L.getD k (0, [])).2.length : Nat) : Int) + 8 = _; rw [List.getD, hc]; rfl
      have HB := Lib.hid (show Bys _ _ _ from ⟨k2, k3, by omega⟩)
      obtain ⟨fk, fbs⟩ := c
      dsimp only at k0 k1 hcl HB HFk
      clear k2 k3 hc
      have X2 := (Ext.refl wr).alloc (.cells #[.int .i64 fk, .slice ca cn cc] 61)
      have BC := BoxIs.new wr #[.int .i64 fk, .slice ca cn cc] 61
      have c0 := BC.cell (i := 0) (v := .int .i64 fk) rfl
      have c1 := BC.cell (i := 1) (v := .slice ca cn cc) rfl
      have HB2 := Lib.hid (HB.out.ext X2)
      have HO2 := Lib.hid (own_extl HO.out X2)
      have HE2 := Lib.hid (hEr.trans X2)
      obtain ⟨cz, fz⟩ := own_cell HO2.out hlt
      rw [if_neg (Nat.lt_irrefl _)] at cz
      obtain ⟨y, hy⟩ : ∃ y : Int, ((fbs.length : Nat) : Int) + 8 = y := ⟨_, rfl⟩
      have UC := Lib.hid (fun W (hb : Bys W (.slice ca cn cc) fbs) => cost_any fk fbs (.slice ca cn cc) W hb hcl)
      rw [hy] at HFk UC
      clear hy hcl BC X2 HO hEr HB
      go_wp2_with fail
      refine (UC.out _ HB2.out).mono ?_; rintro e w5 ⟨rfl, hx5⟩
      have HO5 := Lib.hid (own_extl HO2.out hx5)
      have HE5 := Lib.hid (HE2.out.trans hx5)
      have cz5 := hx5.cell cz
      have fz5 := (Below.frozen (p := ⟨w.heap.size, k, none⟩) hx5 (Ext.lt cz)).trans fz
      clear UC hx5 HO2 HE2 HB2 cz fz c0 c1 k0 k1
      go_wp2
      go_roundw
      case rel =>
        refine ⟨k + 1, by omega, by go_num, ?_, ?_⟩
        · have h := own_set (x := y) HO5.out hlt
          rw [rowL_congrg (g := fun j => if j < k + 1 then F j else 0) (fun i _ => by
            by_cases hik : i = k
            · subst hik
              rw [if_pos rfl, if_pos (by omega), HFk.out]
            · rw [if_neg hik]
              by_cases h2 : i < k
              · rw [if_pos h2, if_pos (by omega)]
              · rw [if_neg h2, if_neg (by omega)])] at h
          exact h
        · exact HE5.out.setCell (p := ⟨w.heap.size, k, none⟩) (Nat.le_refl _) _
      case measure => simp [intOf]; omega
    · obtain rfl : k = n := by omega
      go_wp2
      go_ret
      refine ⟨_, rfl, ?_, hEr⟩
      rw [rowL_congrg (g := F) (fun i hi => if_pos hi)] at HO
      exact HO.out
end Go.Proofs.YtlaedbglclmheaaGreatDoor
