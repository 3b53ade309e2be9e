/- kinref10.Edges: its contract over this seat's translation. -/
import Derived.Test.YtkighedghgcdjaaDoorEdR
import Derived.Test.YtkighedghgcdjaaDoorRMay
import Derived.Test.YtkighedghgcdjaaDoorMat
namespace Go.Proofs.YtkighedghgcdjaaDoor
set_option linter.unusedVariables false
set_option linter.unusedSimpArgs false
open Go.RowKit Go.Extern.Stop Go.Stop Go.Extern

/-- two slices of the call's own that share no block -/
def Apart (u v : Value) : Prop := ∀ b, u.ownBlock = some b → v.ownBlock ≠ some b
theorem Apart.symm {u v : Value} (h : Apart u v) : Apart v u := fun b h1 h2 => h b h2 h1
theorem push_two {W W' : World} {base n : Nat} {tv lv v' : Value} {xs : List Value} (hl : W.ownsRow base 3 1 lv n xs) (ap : Apart tv lv) (g : W.grownBy W' tv.ownBlock) (hv : v'.ownBlock = tv.ownBlock ∨ v'.ownBlock = some (W.heap.size + 1)) :
    W'.ownsRow base 3 1 lv n xs ∧ Apart v' lv := by
  refine ⟨own_grownBy hl g ?_, fun b h1 h2 => ?_⟩
  · cases hb : lv.ownBlock with
    | none => exact Or.inl rfl
    | some b => exact Or.inr (fun e => ap b e.symm hb)
  · rcases hv with hv | hv
    · exact ap b (hv.symm.trans h1) h2
    · have e : b = W.heap.size + 1 := Option.some.inj (h1.symm.trans hv)
      have := (hl.lt b h2).2
      omega
theorem rowL_se (k : Nat) (f : Nat → Int) : (rowL (k + 1) f).map (Value.int .i64) = (rowL k f).map (Value.int .i64) ++ [.int .i64 (f k)] := by
  unfold rowL
  rw [List.range_succ, List.map_append, List.map_append]
  rfl
theorem grown_below {W W' : World} {base n : Nat} {tv : Value} {xs : List Value} (ht : W.ownsRow base 3 1 tv n xs) (g : W.grownBy W' tv.ownBlock) (hb : base ≤ W.heap.size) : Below base W W' :=
  Below.grown (Below.refl base W) g hb (fun k hk => (ht.lt k hk).1)
/-- the neighbours of a square, by the document -/
def topF (W : Int) (zs : List Int) (x y : Int) (i : Nat) : Int := placeF W zs (x + i) (y - 1)
def leftF (W : Int) (zs : List Int) (x y : Int) (i : Nat) : Int := placeF W zs (x - 1) (y + i)
set_option maxHeartbeats 2000000 in
set_option maxRecDepth 20000 in
theorem redges_4 (W H x y : Int) (zs : List Int) (a : Option Addr) (n cap : Nat) (w : World) (h : Ints w (.slice a n cap) zs) (hm : may W H zs) (hx : 0 ≤ x ∧ x ≤ W - 4) (hy : 0 ≤ y ∧ y ≤ H - 4) :
    Calls Tryd.prog 40 #[.agg #[.int .i64 W, .int .i64 H, .slice a n cap], .int .i64 x, .int .i64 y, .int .i64 4] w fun e w' => ∃ u u', e = .returned (.tuple #[u, u', .int .i64 (placeF W zs (x - 1) (y - 1))]) ∧ Ext w w' ∧ Ints w' u (rowL 4 (topF W zs x y)) ∧ Ints w' u' (rowL 4 (leftF W zs x y)) := by
  have M1 := Lib.hid (fun W' k => rmay_any W H zs a n cap W' k)
  have HM := Lib.hid hm
  have b1 := sideB_true hm.1
  have b2 := sideB_true hm.2.1
  have hn : (n : Int) = W * H := by rw [h.len]; exact hm.2.2.1
  have L1 := Lib.hid (fun (W' : World) => lies_any W H x y 4 (.slice a n cap) a n cap W' rfl (by omega) (by omega) (by omega))
  have HL : Hid (liesB W H x y 4 = true) := by show _ = _; unfold liesB; simp; omega
  have S1 := Lib.hid (fun (W' : World) (x' y' : Int) (k : Ints W' (.slice a n cap) zs) (h1 : x' < W) (h2 : y' < H) => sample_any W H x' y' zs a n cap W' k (place_in b1.2.1 b2.2.1 hn h1 h2) (by omega))
  obtain ⟨hx1, hx2⟩ := hx
  obtain ⟨hy1, hy2⟩ := hy
  clear hm hn
  have e3 : IntKind.i64.wrap (x - 1) = x - 1 := by rw [IntKind.wrap_i64]; omega
  have e4 : IntKind.i64.wrap (y - 1) = y - 1 := by rw [IntKind.wrap_i64]; omega
  go_enter Tryd.func40, Tryd.ntmps40
  go_wp2_with fail
  refine (M1.out _ (h.ext (by repeat (first | exact Ext.refl _ | assumption | refine Ext.alloc ?_ _ | refine Ext.drew ?_ | refine Ext.drewN ?_ _ | refine Ext.setCell ?_ (by first | exact Nat.le_refl _ | (simp; done) | omega) _ | refine Ext.trans ?_ (by assumption))))).mono ?_; rintro e w3 ⟨rfl, hx3⟩
  rw [decide_eq_true HM.out]
  have p0 : w3.cell? ⟨w.heap.size, 0, none⟩ = some (.int .i64 W) := hx3.cell (by simp)
  have p1 : w3.cell? ⟨w.heap.size, 1, none⟩ = some (.int .i64 H) := hx3.cell (by simp)
  have p2 : w3.cell? ⟨w.heap.size, 2, none⟩ = some (.slice a n cap) := hx3.cell (by simp)
  have E3 : Ext w w3 := (by repeat (first | exact Ext.refl _ | assumption | refine Ext.alloc ?_ _ | refine Ext.drew ?_ | refine Ext.drewN ?_ _ | refine Ext.setCell ?_ (by first | exact Nat.le_refl _ | (simp; done) | omega) _ | refine Ext.trans ?_ (by assumption)))
  clear hx3
  go_wp2_with fail
  refine (L1.out _).mono ?_; rintro e w4 ⟨rfl, hx4⟩
  rw [HL.out]
  have P0 := hx4.cell p0
  have P1 := hx4.cell p1
  have P2 := hx4.cell p2
  have E4 : Ext w w4 := E3.trans hx4
  have hP : w.heap.size < w4.heap.size := Ext.lt P0
  clear hx4 p0 p1 p2 E3
  go_wp2_with fail
  go_loopw [11, 12, 13] (fun tv lv iv wr => ∃ k : Nat, k ≤ 4 ∧ iv = .int .i64 k ∧ Hid (wr.ownsRow w4.heap.size 3 1 tv k ((rowL k (topF W zs x y)).map (Value.int .i64)) ∧ wr.ownsRow w4.heap.size 3 1 lv k ((rowL k (leftF W zs x y)).map (Value.int .i64)) ∧ Apart tv lv) ∧ Ext w4 wr) (fun _ _ iv _ => 4 - (intOf iv).toNat)
  case atStart => exact ⟨0, Nat.zero_le _, rfl, ⟨⟨rfl, Or.inl ⟨rfl, rfl⟩⟩, ⟨rfl, Or.inl ⟨rfl, rfl⟩⟩, fun b hb => by cases hb⟩, Ext.refl _⟩
  case round =>
    obtain ⟨k, hk, rfl, HO, hE⟩ := hrel
    have Q0 := hE.cell P0
    have Q1 := hE.cell P1
    have Q2 := hE.cell P2
    by_cases hlt : k < 4
    · have d1 : IntKind.i64.wrap (x + (k : Int)) = x + (k : Int) := by rw [IntKind.wrap_i64]; omega
      have d2 : IntKind.i64.wrap (y + (k : Int)) = y + (k : Int) := by rw [IntKind.wrap_i64]; omega
      go_wp2_with fail
      refine (S1.out _ (x + k) (y - 1) (h.ext (E4.trans hE)) (by omega) (by omega)).mono ?_; rintro e w5 ⟨rfl, hx5⟩
      have O5 : Hid (_ ∧ _ ∧ Apart _ _) := ⟨own_ext HO.out.1 hx5, own_ext HO.out.2.1 hx5, HO.out.2.2⟩
      have E5 : Ext w4 w5 := hE.trans hx5
      have B5 := E5.size
      clear HO hE hx5 Q0 Q1 Q2
      go_wp2_with (at_builtin; refine push_at rfl _ _ 22 rfl Tryd.underlying22 _ _ _ _ rfl O5.out.1 (by show Value.slice (some ⟨w5.heap.size, 0, none⟩) 1 1 = _; simp) B5 (by omega) ?_; intro v6 w6 h1 h2 h3; have O6 := Lib.hid (push_two O5.out.2.1 O5.out.2.2 h2 h3); have E6 : Ext w4 w6 := E5.of_below (grown_below O5.out.1 h2 B5) (Nat.le_refl _); have T6 := Lib.hid h1; have Q0 := E6.cell P0; have Q1 := E6.cell P1; have Q2 := E6.cell P2; clear h1 h2 h3)
      refine (S1.out _ (x - 1) (y + k) (h.ext (E4.trans E6)) (by omega) (by omega)).mono ?_; rintro e w7 ⟨rfl, hx7⟩
      have O7 := Lib.hid (And.intro (own_ext T6.out hx7) (And.intro (own_ext O6.out.1 hx7) O6.out.2))
      have E7 : Ext w4 w7 := E6.trans hx7
      have B7 := E7.size
      clear T6 O6 O5 E6 hx7 Q0 Q1 Q2
      go_wp2_with (at_builtin; refine push_at rfl _ _ 22 rfl Tryd.underlying22 _ _ _ _ rfl O7.out.2.1 (by show Value.slice (some ⟨w7.heap.size, 0, none⟩) 1 1 = _; simp) B7 (by omega) ?_; intro v8 w8 h1 h2 h3; have O8 := Lib.hid (push_two O7.out.1 O7.out.2.2.symm h2 h3); have E8 : Ext w4 w8 := E7.of_below (grown_below O7.out.2.1 h2 B7) (Nat.le_refl _); have T8 := Lib.hid h1; clear h1 h2 h3)
      go_roundw
      case rel =>
        refine ⟨k + 1, by omega, by go_num, ⟨?_, ?_, O8.out.2.symm⟩, E8⟩
        · rw [rowL_se]; exact O8.out.1
        · rw [rowL_se]; exact T8.out
      case measure => simp [intOf]; omega
    · obtain rfl : k = 4 := by omega
      go_wp2_with fail
      refine (S1.out _ (x - 1) (y - 1) (h.ext (E4.trans hE)) (by omega) (by omega)).mono ?_; rintro e w7 ⟨rfl, hx7⟩
      go_wp2
      go_ret3
      exact ⟨_, _, rfl, (E4.trans hE).trans hx7, Ints.of_row (own_ext HO.out.1 hx7) (by omega), Ints.of_row (own_ext HO.out.2.1 hx7) (by omega)⟩
set_option maxHeartbeats 2000000 in
set_option maxRecDepth 20000 in
theorem redges_8 (W H x y : Int) (zs : List Int) (a : Option Addr) (n cap : Nat) (w : World) (h : Ints w (.slice a n cap) zs) (hm : may W H zs) (hx : 0 ≤ x ∧ x ≤ W - 8) (hy : 0 ≤ y ∧ y ≤ H - 8) :
    Calls Tryd.prog 40 #[.agg #[.int .i64 W, .int .i64 H, .slice a n cap], .int .i64 x, .int .i64 y, .int .i64 8] w fun e w' => ∃ u u', e = .returned (.tuple #[u, u', .int .i64 (placeF W zs (x - 1) (y - 1))]) ∧ Ext w w' ∧ Ints w' u (rowL 8 (topF W zs x y)) ∧ Ints w' u' (rowL 8 (leftF W zs x y)) := by
  have M1 := Lib.hid (fun W' k => rmay_any W H zs a n cap W' k)
  have HM := Lib.hid hm
  have b1 := sideB_true hm.1
  have b2 := sideB_true hm.2.1
  have hn : (n : Int) = W * H := by rw [h.len]; exact hm.2.2.1
  have L1 := Lib.hid (fun (W' : World) => lies_any W H x y 8 (.slice a n cap) a n cap W' rfl (by omega) (by omega) (by omega))
  have HL : Hid (liesB W H x y 8 = true) := by show _ = _; unfold liesB; simp; omega
  have S1 := Lib.hid (fun (W' : World) (x' y' : Int) (k : Ints W' (.slice a n cap) zs) (h1 : x' < W) (h2 : y' < H) => sample_any W H x' y' zs a n cap W' k (place_in b1.2.1 b2.2.1 hn h1 h2) (by omega))
  obtain ⟨hx1, hx2⟩ := hx
  obtain ⟨hy1, hy2⟩ := hy
  clear hm hn
  have e3 : IntKind.i64.wrap (x - 1) = x - 1 := by rw [IntKind.wrap_i64]; omega
  have e4 : IntKind.i64.wrap (y - 1) = y - 1 := by rw [IntKind.wrap_i64]; omega
  go_enter Tryd.func40, Tryd.ntmps40
  go_wp2_with fail
  refine (M1.out _ (h.ext (by repeat (first | exact Ext.refl _ | assumption | refine Ext.alloc ?_ _ | refine Ext.drew ?_ | refine Ext.drewN ?_ _ | refine Ext.setCell ?_ (by first | exact Nat.le_refl _ | (simp; done) | omega) _ | refine Ext.trans ?_ (by assumption))))).mono ?_; rintro e w3 ⟨rfl, hx3⟩
  rw [decide_eq_true HM.out]
  have p0 : w3.cell? ⟨w.heap.size, 0, none⟩ = some (.int .i64 W) := hx3.cell (by simp)
  have p1 : w3.cell? ⟨w.heap.size, 1, none⟩ = some (.int .i64 H) := hx3.cell (by simp)
  have p2 : w3.cell? ⟨w.heap.size, 2, none⟩ = some (.slice a n cap) := hx3.cell (by simp)
  have E3 : Ext w w3 := (by repeat (first | exact Ext.refl _ | assumption | refine Ext.alloc ?_ _ | refine Ext.drew ?_ | refine Ext.drewN ?_ _ | refine Ext.setCell ?_ (by first | exact Nat.le_refl _ | (simp; done) | omega) _ | refine Ext.trans ?_ (by assumption)))
  clear hx3
  go_wp2_with fail
  refine (L1.out _).mono ?_; rintro e w4 ⟨rfl, hx4⟩
  rw [HL.out]
  have P0 := hx4.cell p0
  have P1 := hx4.cell p1
  have P2 := hx4.cell p2
  have E4 : Ext w w4 := E3.trans hx4
  have hP : w.heap.size < w4.heap.size := Ext.lt P0
  clear hx4 p0 p1 p2 E3
  go_wp2_with fail
  go_loopw [11, 12, 13] (fun tv lv iv wr => ∃ k : Nat, k ≤ 8 ∧ iv = .int .i64 k ∧ Hid (wr.ownsRow w4.heap.size 3 1 tv k ((rowL k (topF W zs x y)).map (Value.int .i64)) ∧ wr.ownsRow w4.heap.size 3 1 lv k ((rowL k (leftF W zs x y)).map (Value.int .i64)) ∧ Apart tv lv) ∧ Ext w4 wr) (fun _ _ iv _ => 8 - (intOf iv).toNat)
  case atStart => exact ⟨0, Nat.zero_le _, rfl, ⟨⟨rfl, Or.inl ⟨rfl, rfl⟩⟩, ⟨rfl, Or.inl ⟨rfl, rfl⟩⟩, fun b hb => by cases hb⟩, Ext.refl _⟩
  case round =>
    obtain ⟨k, hk, rfl, HO, hE⟩ := hrel
    have Q0 := hE.cell P0
    have Q1 := hE.cell P1
    have Q2 := hE.cell P2
    by_cases hlt : k < 8
    · have d1 : IntKind.i64.wrap (x + (k : Int)) = x + (k : Int) := by rw [IntKind.wrap_i64]; omega
      have d2 : IntKind.i64.wrap (y + (k : Int)) = y + (k : Int) := by rw [IntKind.wrap_i64]; omega
      go_wp2_with fail
      refine (S1.out _ (x + k) (y - 1) (h.ext (E4.trans hE)) (by omega) (by omega)).mono ?_; rintro e w5 ⟨rfl, hx5⟩
      have O5 : Hid (_ ∧ _ ∧ Apart _ _) := ⟨own_ext HO.out.1 hx5, own_ext HO.out.2.1 hx5, HO.out.2.2⟩
      have E5 : Ext w4 w5 := hE.trans hx5
      have B5 := E5.size
      clear HO hE hx5 Q0 Q1 Q2
      go_wp2_with (at_builtin; refine push_at rfl _ _ 22 rfl Tryd.underlying22 _ _ _ _ rfl O5.out.1 (by show Value.slice (some ⟨w5.heap.size, 0, none⟩) 1 1 = _; simp) B5 (by omega) ?_; intro v6 w6 h1 h2 h3; have O6 := Lib.hid (push_two O5.out.2.1 O5.out.2.2 h2 h3); have E6 : Ext w4 w6 := E5.of_below (grown_below O5.out.1 h2 B5) (Nat.le_refl _); have T6 := Lib.hid h1; have Q0 := E6.cell P0; have Q1 := E6.cell P1; have Q2 := E6.cell P2; clear h1 h2 h3)
      refine (S1.out _ (x - 1) (y + k) (h.ext (E4.trans E6)) (by omega) (by omega)).mono ?_; rintro e w7 ⟨rfl, hx7⟩
      have O7 := Lib.hid (And.intro (own_ext T6.out hx7) (And.intro (own_ext O6.out.1 hx7) O6.out.2))
      have E7 : Ext w4 w7 := E6.trans hx7
      have B7 := E7.size
      clear T6 O6 O5 E6 hx7 Q0 Q1 Q2
      go_wp2_with (at_builtin; refine push_at rfl _ _ 22 rfl Tryd.underlying22 _ _ _ _ rfl O7.out.2.1 (by show Value.slice (some ⟨w7.heap.size, 0, none⟩) 1 1 = _; simp) B7 (by omega) ?_; intro v8 w8 h1 h2 h3; have O8 := Lib.hid (push_two O7.out.1 O7.out.2.2.symm h2 h3); have E8 : Ext w4 w8 := E7.of_below (grown_below O7.out.2.1 h2 B7) (Nat.le_refl _); have T8 := Lib.hid h1; clear h1 h2 h3)
      go_roundw
      case rel =>
        refine ⟨k + 1, by omega, by go_num, ⟨?_, ?_, O8.out.2.symm⟩, E8⟩
        · rw [rowL_se]; exact O8.out.1
        · rw [rowL_se]; exact T8.out
      case measure => simp [intOf]; omega
    · obtain rfl : k = 8 := by omega
      go_wp2_with fail
      refine (S1.out _ (x - 1) (y - 1) (h.ext (E4.trans hE)) (by omega) (by omega)).mono ?_; rintro e w7 ⟨rfl, hx7⟩
      go_wp2
      go_ret3
      exact ⟨_, _, rfl, (E4.trans hE).trans hx7, Ints.of_row (own_ext HO.out.1 hx7) (by omega), Ints.of_row (own_ext HO.out.2.1 hx7) (by omega)⟩
/-- has a square neighbours -/
def edOk (W H : Int) (zs : List Int) (x y n : Int) : Prop := may W H zs ∧ (n = 4 ∨ n = 8) ∧ liesB W H x y n = true
def NoEdges (w : World) (e : Ending) (w' : World) : Prop := e = .returned (.tuple #[.slice none 0 0, .slice none 0 0, .int .i64 0]) ∧ Ext w w'
set_option maxHeartbeats 1000000 in
set_option maxRecDepth 20000 in
theorem redges_no (W H x y i : Int) (zs : List Int) (a : Option Addr) (n cap : Nat) (w : World) (h : Ints w (.slice a n cap) zs) (hm : ¬ edOk W H zs x y i) :
    Calls Tryd.prog 40 #[.agg #[.int .i64 W, .int .i64 H, .slice a n cap], .int .i64 x, .int .i64 y, .int .i64 i] w (NoEdges w) := by
  have M1 := Lib.hid (fun W' k => rmay_any W H zs a n cap W' k)
  by_cases h1 : may W H zs
  · have H1 := Lib.hid h1
    by_cases h2 : i = 4 ∨ i = 8
    · have hb : liesB W H x y i = false := by
        cases hl : liesB W H x y i with
        | false => rfl
        | true => exact absurd ⟨h1, h2, hl⟩ hm
      have b1 := sideB_true h1.1
      have b2 := sideB_true h1.2.1
      have L1 := Lib.hid (fun (W' : World) => lies_any W H x y i (.slice a n cap) a n cap W' rfl (by omega) (by omega) (by omega))
      have HL := Lib.hid hb
      clear hm h1 hb b1 b2
      rcases h2 with rfl | rfl
      all_goals
        go_enter Tryd.func40, Tryd.ntmps40
        go_wp2_with fail
        refine (M1.out _ (h.ext (by repeat (first | exact Ext.refl _ | assumption | refine Ext.alloc ?_ _ | refine Ext.drew ?_ | refine Ext.drewN ?_ _ | refine Ext.setCell ?_ (by first | exact Nat.le_refl _ | (simp; done) | omega) _ | refine Ext.trans ?_ (by assumption))))).mono ?_; rintro e w3 ⟨rfl, hx3⟩
        rw [decide_eq_true H1.out]
        have p0 : w3.cell? ⟨w.heap.size, 0, none⟩ = some (.int .i64 W) := hx3.cell (by simp)
        have p1 : w3.cell? ⟨w.heap.size, 1, none⟩ = some (.int .i64 H) := hx3.cell (by simp)
        have p2 : w3.cell? ⟨w.heap.size, 2, none⟩ = some (.slice a n cap) := hx3.cell (by simp)
        go_wp2_with fail
        refine (L1.out _).mono ?_; rintro e w4 ⟨rfl, hx4⟩
        rw [HL.out]
        go_wp2
        go_ret3
        exact ⟨rfl, (by repeat (first | exact Ext.refl _ | assumption | refine Ext.alloc ?_ _ | refine Ext.drew ?_ | refine Ext.drewN ?_ _ | refine Ext.setCell ?_ (by first | exact Nat.le_refl _ | (simp; done) | omega) _ | refine Ext.trans ?_ (by assumption)))⟩
    · have n4 : (i != 4) = true := by simp; omega
      have n8 : (i != 8) = true := by simp; omega
      clear hm h1 h2
      go_enter Tryd.func40, Tryd.ntmps40
      go_wp2_with fail
      refine (M1.out _ (h.ext (by repeat (first | exact Ext.refl _ | assumption | refine Ext.alloc ?_ _ | refine Ext.drew ?_ | refine Ext.drewN ?_ _ | refine Ext.setCell ?_ (by first | exact Nat.le_refl _ | (simp; done) | omega) _ | refine Ext.trans ?_ (by assumption))))).mono ?_; rintro e w3 ⟨rfl, hx3⟩
      rw [decide_eq_true H1.out]
      go_wp2
      go_ret3
      exact ⟨rfl, (by repeat (first | exact Ext.refl _ | assumption | refine Ext.alloc ?_ _ | refine Ext.drew ?_ | refine Ext.drewN ?_ _ | refine Ext.setCell ?_ (by first | exact Nat.le_refl _ | (simp; done) | omega) _ | refine Ext.trans ?_ (by assumption)))⟩
  · have H1 := Lib.hid h1
    clear hm h1
    go_enter Tryd.func40, Tryd.ntmps40
    go_wp2_with fail
    refine (M1.out _ (h.ext (by repeat (first | exact Ext.refl _ | assumption | refine Ext.alloc ?_ _ | refine Ext.drew ?_ | refine Ext.drewN ?_ _ | refine Ext.setCell ?_ (by first | exact Nat.le_refl _ | (simp; done) | omega) _ | refine Ext.trans ?_ (by assumption))))).mono ?_; rintro e w3 ⟨rfl, hx3⟩
    rw [decide_eq_false H1.out]
    go_wp2
    go_ret3
    exact ⟨rfl, (by repeat (first | exact Ext.refl _ | assumption | refine Ext.alloc ?_ _ | refine Ext.drew ?_ | refine Ext.drewN ?_ _ | refine Ext.setCell ?_ (by first | exact Nat.le_refl _ | (simp; done) | omega) _ | refine Ext.trans ?_ (by assumption)))⟩
end Go.Proofs.YtkighedghgcdjaaDoor
