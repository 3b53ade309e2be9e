/- rac.NewDecoder: its contract over this seat's translation. -/
import Derived.Test.YtdpebaheojaihaaDoorRe2
namespace Go.Proofs.YtdpebaheojaihaaDoor
set_option linter.unusedVariables false
set_option linter.unusedSimpArgs false
open Go.RowKit Go.Extern.Stop Go.Stop Go.Extern

def mvD (bs : List Nat) (s : Dc) : Dc := { s with pos := s.pos + 1, num := s.num * 256 % 18446744073709551616 + bs.getD s.pos 0 }
def mvN (bs : List Nat) : Nat → Dc
  | 0 => ⟨0, false, 0, 4294967295⟩
  | k + 1 => mvD bs (mvN bs k)
def newD (bs : List Nat) : Dc := { mvN bs 4 with over := decide (4294967295 ≤ (mvN bs 4).num) }
theorem mvN_is (bs : List Nat) (hb : ∀ x ∈ bs, x < 256) (k : Nat) (hk : k ≤ 4) : (mvN bs k).pos = k ∧ (mvN bs k).over = false ∧ (mvN bs k).wid = 4294967295 ∧ (mvN bs k).num < 256 ^ k := by
  induction k with
  | zero => exact ⟨rfl, rfl, rfl, Nat.one_pos⟩
  | succ k ih =>
    obtain ⟨h1, h2, h3, h4⟩ := ih (by omega)
    refine ⟨by show (mvN bs k).pos + 1 = k + 1; rw [h1], h2, h3, ?_⟩
    show (mvN bs k).num * 256 % 18446744073709551616 + bs.getD (mvN bs k).pos 0 < 256 ^ (k + 1)
    have hx := getD_lt hb (mvN bs k).pos
    have h5 : (mvN bs k).num * 256 % 18446744073709551616 ≤ (mvN bs k).num * 256 := Nat.mod_le _ _
    rw [Nat.pow_succ]
    omega
theorem newD_ok {bs : List Nat} (hb : ∀ x ∈ bs, x < 256) : okD 4 (newD bs) ∧ (newD bs).wid = 4294967295 ∧ (newD bs).num < 4294967296 ∧ (newD bs).pos = 4 := by
  obtain ⟨h1, h2, h3, h4⟩ := mvN_is bs hb 4 (Nat.le_refl _)
  have h4 : (mvN bs 4).num < 4294967296 := h4
  exact ⟨⟨by show (mvN bs 4).pos ≤ 4; omega, by show (mvN bs 4).num < _; omega, by show (mvN bs 4).wid < _; omega⟩, h3, h4, h1⟩
def NdPost (w : World) (bs : List Nat) (e : Ending) (w' : World) : Prop := ∃ b, e = .returned (.pointer (some ⟨b, 0, none⟩)) ∧ w.heap.size ≤ b ∧ DcAt (fun g => g < w.heap.size ∨ w'.heap.size ≤ g) w' b bs (newD bs) ∧ Ext w w'
set_option maxRecDepth 20000 in
set_option maxHeartbeats 4000000 in
theorem newdc_any (bs : List Nat) (v : Value) (w : World) (h : Bys w v bs) : Calls Tryd.prog 23 #[v] w (NdPost w bs) := by
  have UC := Lib.hid (clb_any bs v w h)
  have HBB := Lib.hid h.2
  clear h
  go_enter Tryd.func23, Tryd.ntmps23
  go_wp2_with fail
  refine (UC.out).mono ?_; rintro e w1 ⟨u, rfl, ho, hx1⟩
  have hy := Bys.of_owns ho HBB.out.1 HBB.out.2
  obtain ⟨a, cap, rfl⟩ := hy.form
  have hg : ∀ g off, a = some ⟨g, off, none⟩ → w.heap.size ≤ g ∧ g < w1.heap.size := fun g off ha => by
    subst ha
    exact ho.lt g rfl
  obtain ⟨B, hB⟩ : ∃ B, w1.heap.size = B := ⟨_, rfl⟩
  have hBw : w.heap.size ≤ B := by rw [← hB]; exact hx1.size
  have HD0 : Hid (DcAt (fun g => g < w.heap.size ∨ B + 1 ≤ g) (w1.alloc (.cells #[.slice a bs.length cap, .int .i64 0, .bool false, .int .u64 0, .int .u64 4294967295] 77)) B bs (mvN bs 0)) := by
    subst hB
    exact ⟨a, cap, ⟨⟨by simp, by simp [mvN], by simp [mvN], by simp [mvN], by simp [mvN]⟩, by simp, by simp, by simp, by simp⟩, hy.ext ((Ext.refl _).alloc _), fun g off ha => by have := hg g off ha; omega⟩
  have HX0 := Lib.hid (hx1.alloc (.cells #[.slice a bs.length cap, .int .i64 0, .bool false, .int .u64 0, .int .u64 4294967295] 77))
  have HS0 : Hid ((w1.alloc (.cells #[.slice a bs.length cap, .int .i64 0, .bool false, .int .u64 0, .int .u64 4294967295] 77)).heap.size = B + 1) := by show _ = _; simp [hB]
  have HBw := Lib.hid hBw
  clear ho hy hg hx1
  go_wp2_with fail
  clear hB
  go_loopw [8] (fun iv wr => ∃ k : Nat, k ≤ 4 ∧ iv = .int .i64 (k : Int) ∧ Hid (DcAt (fun g => g < w.heap.size ∨ B + 1 ≤ g) wr B bs (mvN bs k)) ∧ Hid (Ext w wr) ∧ Hid (wr.heap.size = B + 1)) (fun iv _ => 4 - (intOf iv).toNat)
  case atStart => exact ⟨0, Nat.zero_le _, rfl, HD0.out, HX0.out, HS0.out⟩
  case round =>
    clear HD0 HX0 HS0
    obtain ⟨k, hk, rfl, HD, HX, HS⟩ := hrel
    obtain ⟨a3, cap3, hB3, hY3, hF3⟩ := HD.out
    obtain ⟨m1, m2, m3, m4⟩ := mvN_is bs HBB.out.1 k hk
    obtain ⟨t, ht⟩ : ∃ t, mvN bs k = t := ⟨_, rfl⟩
    rw [ht] at hB3 m1 m2 m3 m4
    obtain ⟨U, hU⟩ : ∃ U, t.num = U := ⟨_, rfl⟩
    obtain ⟨⟨c0, c1, c2, c3, c4⟩, f1, f2, f3, f4⟩ := id hB3
    rw [hU] at c3
    rw [m3] at c4
    have hF9 : ∀ g off, a3 = some ⟨g, off, none⟩ → g ≠ B := fun g off e => (hF3 g off e).1
    by_cases hlt : k < 4
    · have UN := Lib.hid (next_any' (fun g => g < w.heap.size ∨ B + 1 ≤ g) B bs t wr.drew (by rw [← ht]; exact HD.out.ext ((Ext.refl wr).drew)) (by omega))
      obtain ⟨x, hx⟩ : ∃ x, bs.getD t.pos 0 = x := ⟨_, rfl⟩
      have hx8 : x < 256 := by rw [← hx]; exact getD_lt hY3.2.1 _
      rw [hx] at UN
      obtain ⟨M, hM1, hM2⟩ := mv_u64 (num := U) hx8
      obtain ⟨V, hV⟩ : ∃ V, U * 256 % 18446744073709551616 + x = V := ⟨_, rfl⟩
      rw [hV] at hM2
      have HST : Hid (mvN bs (k + 1) = { t with pos := t.pos + 1, num := V }) := by
        show mvD bs (mvN bs k) = _
        rw [ht]
        unfold mvD
        rw [hU, hx, hV]
      have hBn := ((hB3.ext ((Ext.refl wr).drew)).set1 (t.pos + 1))
      have hBm := hBn.set3 V
      have hYd : Bys wr.drew (.slice a3 bs.length cap3) bs := hY3.ext ((Ext.refl wr).drew)
      have HDf : Hid (DcAt (fun g => g < w.heap.size ∨ B + 1 ≤ g) ((wr.drew.setCell ⟨B, 1, none⟩ (.int .i64 ((t.pos + 1 : Nat) : Int))).setCell ⟨B, 3, none⟩ (.int .u64 (V : Int))) B bs (mvN bs (k + 1))) := by
        show DcAt _ _ _ _ _
        rw [HST.out]
        exact ⟨a3, cap3, hBm, ⟨row_kp hYd.1 (((Kp.refl B wr.drew).set 1 _).set 3 _) hF9, hYd.2⟩, hF3⟩
      have HXf : Hid (Ext w ((wr.drew.setCell ⟨B, 1, none⟩ (.int .i64 ((t.pos + 1 : Nat) : Int))).setCell ⟨B, 3, none⟩ (.int .u64 (V : Int)))) := (HX.out.drew.setCell (p := ⟨B, 1, none⟩) HBw.out _).setCell (p := ⟨B, 3, none⟩) HBw.out _
      have HSf : Hid (((wr.drew.setCell ⟨B, 1, none⟩ (.int .i64 ((t.pos + 1 : Nat) : Int))).setCell ⟨B, 3, none⟩ (.int .u64 (V : Int))).heap.size = B + 1) := by show _ = _; have := HS.out; simpa using this
      obtain ⟨⟨-, -, -, n3, -⟩, -, -, p3, -⟩ := hBn
      have n3 : (wr.drew.setCell ⟨B, 1, none⟩ (.int .i64 ((t.pos + 1 : Nat) : Int))).cell? ⟨B, 3, none⟩ = some (.int .u64 (U : Int)) := by rw [← hU]; exact n3
      have x1 : (k : Int) < 4 := by omega
      clear hBm hYd hB3 hY3 hF3 hF9 hV hx hU ht c0 c1 c2 c4 f1 f2 f4 hx8 m1 m2 m3 m4
      go_wp2_with fail
      go_region_law (go_simp; go_at_call 41; refine (UN.out).mono ?_; rintro e w7 ⟨rfl, rfl⟩)
      all_goals go_wp2
      all_goals go_roundw
      all_goals first
        | exact ⟨k + 1, by omega, by go_num, HDf.out, HXf.out, HSf.out⟩
        | (simp [intOf]; omega)
    · have hk4 : k = 4 := by omega
      have x1 : ¬ (k : Int) < 4 := by omega
      have hKK : decide (4294967295 ≤ U) = decide ((4294967295 : Int) ≤ (U : Int)) := decide_eq_decide.2 (by omega)
      have HNW : Hid (newD bs = { t with over := decide ((4294967295 : Int) ≤ (U : Int)) }) := by
        show ({ mvN bs 4 with over := decide (4294967295 ≤ (mvN bs 4).num) } : Dc) = _
        rw [← hk4, ht, show decide (4294967295 ≤ t.num) = decide (4294967295 ≤ U) by rw [hU], hKK]
      obtain ⟨K, hK⟩ : ∃ K, decide ((4294967295 : Int) ≤ (U : Int)) = K := ⟨_, rfl⟩
      rw [hK] at HNW
      have hBm := hB3.set2 K
      have D9 : Ext (wr.setCell ⟨B, 2, none⟩ (.bool K)) (wr.setCell ⟨B, 2, none⟩ (.bool K)).drew := (Ext.refl _).drew
      have hDf : DcAt (fun g => g < w.heap.size ∨ (wr.setCell ⟨B, 2, none⟩ (.bool K)).drew.heap.size ≤ g) (wr.setCell ⟨B, 2, none⟩ (.bool K)) B bs { t with over := K } := ⟨a3, cap3, hBm, ⟨row_kp hY3.1 ((Kp.refl B wr).set 2 _) hF9, hY3.2⟩, fun g off e => ⟨(hF3 g off e).1, fun h9 => (hF3 g off e).2 (by have := HS.out; simp at h9; omega)⟩⟩
      have HDf := Lib.hid (hDf.ext D9)
      have HXf : Hid (Ext w (wr.setCell ⟨B, 2, none⟩ (.bool K)).drew) := (HX.out.setCell (p := ⟨B, 2, none⟩) HBw.out _).drew
      clear hBm hB3 hY3 hF3 hF9 hU ht m1 m2 m3 m4 c0 c1 hk4 hDf D9 hKK
      go_wp2_with fail
      go_region
      go_wp2
      go_ret
      exact ⟨B, rfl, HBw.out, by show DcAt _ _ _ _ _; rw [HNW.out]; exact HDf.out, HXf.out⟩
end Go.Proofs.YtdpebaheojaihaaDoor
