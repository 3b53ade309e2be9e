/- Contracts of this seat: Cop, RMay, PlA, Get, TwF, Mo1, Mo2, Pk, Mo3, StM, Blk2, Res, R7, R7s, St1, St2, RFr, St3, Mo4. -/
import Derived.Test.YtaamnpbhmckpbaaDoorZa
import Derived.Deep.RegionHeld3
import Derived.Deep.RegionLaw
import Derived.BigRegion
/- slices.Repeat's row as one of the call's own; the builtin copy, that leaves all other blocks. -/
namespace Go.Proofs.YtaamnpbhmckpbaaDoor
set_option linter.unusedVariables false
set_option linter.unusedSimpArgs false
open Go.RowKit Go.Extern.Stop Go.Stop Go.Extern

theorem own_mono {w : World} {base b n : Nat} {e : TypeId} {s : Nat} {v : Value} {xs : List Value} (h : w.ownsRow base e s v n xs) (hb : b ≤ base) : w.ownsRow b e s v n xs := by
  obtain ⟨hl, h⟩ := h
  refine ⟨hl, ?_⟩
  rcases h with h | ⟨g, cap, cur, e, hg, h⟩
  · exact Or.inl h
  · exact Or.inr ⟨g, cap, cur, e, Nat.le_trans hb hg, h⟩
/-- made by Repeat, at the lengths that are asked for -/
def RepPost (w : World) (N : Nat) (x : Int) (e : Ending) (w' : World) : Prop := ∃ g, e = .returned (.slice (some ⟨g, 0, none⟩) N N) ∧ Ext w w' ∧ w'.ownsRow w.heap.size 3 1 (.slice (some ⟨g, 0, none⟩) N N) N ((rowL N fun _ => x).map (Value.int .i64)) ∧ w.heap.size ≤ g ∧ g < w'.heap.size
theorem grownBy_setRow (w : World) (g : Nat) (cs : Array Value) : w.grownBy (w.setRow g cs) (some g) :=
  ⟨rfl, rfl, rfl, by simp [World.setRow], fun k _ hne => setRow_other w g k cs (fun e => hne (by rw [e]))⟩
theorem copy_keep {P : Program} {w : World} {ops : Array Oper} {rest : List Oper} {o : Oper} {a : Act} {Q : Exit → Act → World → Prop} (hgd : o.guard = none) (d s : Operand) (dT sT : TypeId)
    (ho : o.op = .call { callee := .builtin .copy, args := #[d, s], argTypes := #[dT, sT] }) (elem : TypeId) (hu : P.underlying dT = some (.slice elem)) (hsz : (P.info? elem).map (·.size) = some 1)
    (g off dLen dCap : Nat) (ad : Addr) (sLen sCap : Nat) (hd : a.eval d = .slice (some ⟨g, off, none⟩) dLen dCap) (hs : a.eval s = .slice (some ad) sLen sCap)
    (cur : List Value) (t : TypeId) (hg : w.heap[g]? = some (.cells cur.toArray t (0, 0))) (cs : List Value) (hn : cs.length = Nat.min sLen dLen)
    (hsrc : ∀ j v, cs[j]? = some v → w.cell? (ad.add j) = some v) (hfit : off + cs.length ≤ cur.length) (h1 : ∀ v ∈ cs, v.oneCell' = true)
    (h : ∀ w', Hid (w'.heap[g]? = some (.cells (splice cur off cs).toArray t (0, 0))) → w.grownBy w' (some g) → wpList P ops Q rest (a.put o.dst (goInt cs.length)) w') :
    wpList P ops Q (o :: rest) a w := by
  refine wpList_copy_own hgd d s dT sT ho elem hu hsz g off dLen dCap ad sLen sCap hd hs cur.toArray t hg cs hn hsrc (by simpa using hfit) h1 ?_
  exact h _ (show _ = _ by simpa [splice] using setRow_heap w g _ _ t _ hg) (grownBy_setRow _ _ _)
/-- what a copy reads, out of a list that came in -/
theorem read_row {w : World} {g off n cap k N : Nat} {zs : List Int} {f : Nat → Int} (h : Ints w (.slice (some ⟨g, off, none⟩) n cap) zs) (hk : k + N ≤ n) (hf : ∀ j, j < N → f j = zs.getD (k + j) 0) :
    ∀ j v, ((rowL N f).map (Value.int .i64))[j]? = some v → w.cell? ((⟨g, off + k, none⟩ : Addr).add j) = some v := fun j v hv => by
  have hadd : (⟨g, off + k, none⟩ : Addr).add j = ⟨g, off + (k + j), none⟩ := by unfold Addr.add; split <;> simp_all [Nat.add_assoc]
  rw [List.getElem?_map] at hv
  obtain ⟨y, hy, rfl⟩ := Option.map_eq_some_iff.1 hv
  have hj : j < N := by
    have := (List.getElem?_eq_some_iff.1 hy).1
    rwa [rowL_length] at this
  rw [rowL_get hj] at hy
  cases hy
  rw [hadd, hf j hj]
  exact h.at (get_of_lt (by rw [← h.len]; omega))
theorem ones_row (N : Nat) (f : Nat → Int) : ∀ u ∈ (rowL N f).map (Value.int .i64), u.oneCell' = true := fun u hu => by
  obtain ⟨y, _, rfl⟩ := List.mem_map.1 hu
  rfl
/-- a splice that covers all -/
theorem splice_all {α : Type} {L cs : List α} (h : cs.length = L.length) : splice L 0 cs = cs := by
  unfold splice
  simp [h]
theorem rowL_cg {N : Nat} {f g : Nat → Int} (h : ∀ j, j < N → f j = g j) : rowL N f = rowL N g := by
  unfold rowL
  exact List.map_congr_left fun j hj => h j (List.mem_range.1 hj)
theorem rowL_sn (k : Nat) (f : Nat → Int) : (rowL (k + 1) f).map (Value.int .i64) = (rowL k f).map (Value.int .i64) ++ [.int .i64 (f k)] := by
  unfold rowL
  rw [List.range_succ, List.map_append, List.map_append]
  rfl
end Go.Proofs.YtaamnpbhmckpbaaDoor

/- kinref6.May: its contract over this seat's translation. -/
namespace Go.Proofs.YtaamnpbhmckpbaaDoor
set_option linter.unusedVariables false
set_option linter.unusedSimpArgs false
open Go.RowKit Go.Extern.Stop Go.Stop Go.Extern

set_option maxRecDepth 20000 in
set_option maxHeartbeats 1000000 in
theorem rmay_any (W H : Int) (zs : List Int) (a : Option Addr) (n cap : Nat) (w : World) (h : Ints w (.slice a n cap) zs) :
    Calls Tryd.prog 50 #[.agg #[.int .i64 W, .int .i64 H, .slice a n cap]] w fun e w' => e = .returned (.bool (decide (may W H zs))) ∧ Ext w w' := by
  have E1 : Ext w (w.alloc (.cells #[.int .i64 W, .int .i64 H, .slice a n cap] 67)) := (Ext.refl w).alloc _
  have HN := Lib.hid h.len
  cases hs : sideB W with
  | false =>
    have HR : Hid (decide (may W H zs) = false) := by show _ = _; simp [may, hs]
    go_enter Tryd.func50, Tryd.ntmps50
    go_wp2_with (go_at_call 75; refine (rside_any _ _).mono ?_; rintro e w' ⟨rfl, rfl⟩)
    go_ret
    exact ⟨by rw [HR.out]; rfl, E1⟩
  | true =>
    cases ht : sideB H with
    | false =>
      have HR : Hid (decide (may W H zs) = false) := by show _ = _; simp [may, ht]
      go_enter Tryd.func50, Tryd.ntmps50
      go_wp2_with (go_at_call 75; refine (rside_any _ _).mono ?_; rintro e w' ⟨rfl, rfl⟩)
      go_ret
      exact ⟨by rw [HR.out]; rfl, E1⟩
    | true =>
      obtain ⟨b1, b2⟩ := side_area hs ht
      by_cases hl : (n : Int) = W * H
      · have hl2 : ((n : Int) == W * H) = true := by simpa using hl
        have HW := Lib.hid (within_any zs 0 255)
        have HR : Hid (decide (may W H zs) = decide (within 0 255 zs)) := by
          show _ = _
          rw [decide_eq_decide]
          exact ⟨fun k => k.2.2.2, fun k => ⟨hs, ht, by rw [← HN.out]; exact hl, k⟩⟩
        clear hl
        cases hd : decide (within 0 255 zs) with
        | true =>
          rw [hd] at HR HW
          clear hd
          go_enter Tryd.func50, Tryd.ntmps50
          go_wp2_with (go_at_call 75; refine (rside_any _ _).mono ?_; rintro e w' ⟨rfl, rfl⟩)
          refine (HW.out _ _ (h.ext (by repeat (first | exact Ext.refl _ | assumption | refine Ext.alloc ?_ _ | refine Ext.drew ?_ | refine Ext.drewN ?_ _ | refine Ext.setCell ?_ (by first | exact Nat.le_refl _ | (simp; done) | omega) _ | refine Ext.trans ?_ (by assumption))))).mono ?_; rintro e w2 ⟨rfl, hx2⟩
          go_wp2
          go_ret
          exact ⟨by rw [HR.out]; rfl, (by repeat (first | exact Ext.refl _ | assumption | refine Ext.alloc ?_ _ | refine Ext.drew ?_ | refine Ext.drewN ?_ _ | refine Ext.setCell ?_ (by first | exact Nat.le_refl _ | (simp; done) | omega) _ | refine Ext.trans ?_ (by assumption)))⟩
        | false =>
          rw [hd] at HR HW
          clear hd
          go_enter Tryd.func50, Tryd.ntmps50
          go_wp2_with (go_at_call 75; refine (rside_any _ _).mono ?_; rintro e w' ⟨rfl, rfl⟩)
          refine (HW.out _ _ (h.ext (by repeat (first | exact Ext.refl _ | assumption | refine Ext.alloc ?_ _ | refine Ext.drew ?_ | refine Ext.drewN ?_ _ | refine Ext.setCell ?_ (by first | exact Nat.le_refl _ | (simp; done) | omega) _ | refine Ext.trans ?_ (by assumption))))).mono ?_; rintro e w2 ⟨rfl, hx2⟩
          go_wp2
          go_ret
          exact ⟨by rw [HR.out]; rfl, (by repeat (first | exact Ext.refl _ | assumption | refine Ext.alloc ?_ _ | refine Ext.drew ?_ | refine Ext.drewN ?_ _ | refine Ext.setCell ?_ (by first | exact Nat.le_refl _ | (simp; done) | omega) _ | refine Ext.trans ?_ (by assumption)))⟩
      · have HR : Hid (decide (may W H zs) = false) := by show _ = _; rw [decide_eq_false (fun hm => hl (by rw [HN.out]; exact hm.2.2.1))]
        have hl2 : ((n : Int) == W * H) = false := by simpa using hl
        clear hl
        go_enter Tryd.func50, Tryd.ntmps50
        go_wp2_with (go_at_call 75; refine (rside_any _ _).mono ?_; rintro e w' ⟨rfl, rfl⟩)
        go_ret
        exact ⟨by rw [HR.out]; rfl, E1⟩
theorem place_in {W H x y : Int} {n : Nat} (hW : W ≤ 32) (hH : H ≤ 32) (hn : (n : Int) = W * H) (hx : x < W) (hy : y < H) : 0 ≤ x → 0 ≤ y → 0 ≤ y * W ∧ y * W ≤ 100000 ∧ y * W + x < n := fun h1 h2 => by
  have a1 : 0 ≤ y * W := Int.mul_nonneg h2 (by omega)
  have a2 : (y + 1) * W ≤ H * W := Int.mul_le_mul_of_nonneg_right (by omega) (by omega)
  have a3 : H * W ≤ 32 * 32 := Int.mul_le_mul hH hW (by omega) (by omega)
  have a4 : (y + 1) * W = y * W + W := by rw [Int.add_mul, Int.one_mul]
  have a5 : W * H = H * W := Int.mul_comm _ _
  omega
end Go.Proofs.YtaamnpbhmckpbaaDoor

/- slices.Equal, plane.Same, at, At, New; kinref6.at, At; kinlaw6.few: contracts over this seat's translation. -/
namespace Go.Proofs.YtaamnpbhmckpbaaDoor
set_option linter.unusedVariables false
set_option linter.unusedSimpArgs false
open Go.RowKit Go.Extern.Stop Go.Stop Go.Extern

/-- are two frames valid and the same -/
def sameB (W H : Int) (xs : List Int) (W' H' : Int) (ys : List Int) : Bool := decide (may W H xs) && (decide (W = W') && (decide (H = H') && decide (xs = ys)))
/-- the nearest place inside -/
def clampI (v n : Int) : Int := max 0 (min v (n - 1))
theorem clampI_in {v n : Int} (h : 1 ≤ n) : 0 ≤ clampI v n ∧ clampI v n < n := by unfold clampI; omega
/-- the sample at a place; beyond an edge, the one at the edge -/
def atV (W H : Int) (zs : List Int) (x y : Int) : Int := zs.getD (clampI y H * W + clampI x W).toNat 0
theorem at_place {W H : Int} {zs : List Int} (h : may W H zs) (x y : Int) : ∃ k : Nat, clampI y H * W + clampI x W = (k : Int) ∧ k < zs.length ∧ 0 ≤ clampI y H * W ∧ clampI y H * W ≤ 100000 ∧ (k : Int) ≤ 100000 ∧ 0 ≤ clampI x W ∧ clampI x W ≤ 31 := by
  have hW := sideB_true h.1
  have hH := sideB_true h.2.1
  have c1 := clampI_in (v := x) (n := W) (by omega)
  have c2 := clampI_in (v := y) (n := H) (by omega)
  obtain ⟨a1, a2, a3⟩ := place_in hW.2.1 hH.2.1 h.2.2.1 c1.2 c2.2 c1.1 c2.1
  have hml := may_len h
  exact ⟨(clampI y H * W + clampI x W).toNat, by omega, by omega, a1, a2, by omega, c1.1, by omega⟩
set_option maxRecDepth 20000 in
set_option maxHeartbeats 2000000 in
theorem at_any (W H x y : Int) (zs : List Int) (a : Option Addr) (n cap : Nat) (w : World) (h : Ints w (.slice a n cap) zs) (hm : may W H zs) :
    Calls Tryd.prog 77 #[.agg #[.int .i64 W, .int .i64 H, .slice a n cap], .int .i64 x, .int .i64 y] w fun e w' => e = .returned (.int .i64 (atV W H zs x y)) ∧ Ext w w' := by
  obtain ⟨k, hk, hk1, b1, b2, b3, b4, b5⟩ := at_place hm x y
  have hW := sideB_true hm.1
  have hH := sideB_true hm.2.1
  have hl := h.len
  obtain ⟨g, off, rfl⟩ := h.had (by omega)
  have E1 : Ext w (w.alloc (.cells #[.int .i64 W, .int .i64 H, .slice (some ⟨g, off, none⟩) n cap] 67)) := (Ext.refl w).alloc _
  have c1 := E1.cell (h.at (get_of_lt hk1))
  have p0 : (w.alloc (.cells #[.int .i64 W, .int .i64 H, .slice (some ⟨g, off, none⟩) n cap] 67)).cell? ⟨w.heap.size, 0, none⟩ = some (.int .i64 W) := by simp
  have p1 : (w.alloc (.cells #[.int .i64 W, .int .i64 H, .slice (some ⟨g, off, none⟩) n cap] 67)).cell? ⟨w.heap.size, 1, none⟩ = some (.int .i64 H) := by simp
  have p2 : (w.alloc (.cells #[.int .i64 W, .int .i64 H, .slice (some ⟨g, off, none⟩) n cap] 67)).cell? ⟨w.heap.size, 2, none⟩ = some (.slice (some ⟨g, off, none⟩) n cap) := by simp
  have HR : Hid (atV W H zs x y = zs.getD k 0) := by show _ = _; unfold atV; rw [hk]; rfl
  revert c1 HR
  generalize zs.getD k 0 = z
  intro c1 HR
  have r1 := mx2
  have r2 := mn2
  obtain ⟨cx, hcx⟩ : ∃ cx, cx = clampI x W := ⟨_, rfl⟩
  obtain ⟨cy, hcy⟩ : ∃ cy, cy = clampI y H := ⟨_, rfl⟩
  rw [← hcx, ← hcy] at hk
  rw [← hcy] at b1 b2
  rw [← hcx] at b4 b5
  have f1 : max 0 (min y (H - 1)) = cy := by rw [hcy]; unfold clampI; omega
  have f2 : max 0 (min x (W - 1)) = cx := by rw [hcx]; unfold clampI; omega
  have e1 : IntKind.i64.wrap (W - 1) = W - 1 := by rw [IntKind.wrap_i64]; omega
  have e2 : IntKind.i64.wrap (H - 1) = H - 1 := by rw [IntKind.wrap_i64]; omega
  have e3 : IntKind.i64.wrap (cy * W) = cy * W := by rw [IntKind.wrap_i64]; omega
  have e4 : IntKind.i64.wrap (cy * W + cx) = (k : Int) := by rw [IntKind.wrap_i64]; omega
  have k1 : (0 : Int) ≤ (k : Int) ∧ (k : Int) < (n : Int) := by omega
  clear hcx hcy hk hm hl hk1 hW hH b1 b2 b3 b4 b5
  go_enter Tryd.func77, Tryd.ntmps77
  go_wp2
  go_region
  all_goals go_wp2
  all_goals go_ret
  all_goals exact ⟨by rw [HR.out]; rfl, E1.drew⟩
def atA (W H : Int) (zs : List Int) (x y : Int) : Int := if may W H zs then atV W H zs x y else 0
end Go.Proofs.YtaamnpbhmckpbaaDoor

/- plane.isNear, plane.Get; kinref6.Get: contracts over this seat's translation. -/
namespace Go.Proofs.YtaamnpbhmckpbaaDoor
set_option linter.unusedVariables false
set_option linter.unusedSimpArgs false
open Go.RowKit Go.Extern.Stop Go.Stop Go.Extern

def nearB (x : Int) : Bool := decide (-65536 ≤ x) && decide (x ≤ 65536)
theorem near_any (x : Int) (w : World) : Calls Tryd.prog 76 #[.int .i64 x] w fun e w' => e = .returned (.bool (nearB x)) ∧ w = w' := by
  by_cases h1 : -65536 ≤ x
  · by_cases h2 : x ≤ 65536
    · have H : Hid (nearB x = true) := by show _ = _; unfold nearB; simp [h1, h2]
      go_enter Tryd.func76, Tryd.ntmps76
      go_wp2
      go_ret
      exact ⟨by rw [H.out]; rfl, rfl⟩
    · have H : Hid (nearB x = false) := by show _ = _; unfold nearB; simp [h2]
      go_enter Tryd.func76, Tryd.ntmps76
      go_wp2
      go_ret
      exact ⟨by rw [H.out]; rfl, rfl⟩
  · have H : Hid (nearB x = false) := by show _ = _; unfold nearB; simp [h1]
    go_enter Tryd.func76, Tryd.ntmps76
    go_wp2
    go_ret
    exact ⟨by rw [H.out]; rfl, rfl⟩
/-- a square out of a frame -/
def getF (W H : Int) (zs : List Int) (x y : Int) (N k : Nat) : Int := atV W H zs (x + ((k % N : Nat) : Int)) (y + ((k / N : Nat) : Int))
def getOk (W H : Int) (zs : List Int) (x y n : Int) : Prop := may W H zs ∧ (1 ≤ n ∧ n ≤ 8) ∧ nearB x = true ∧ nearB y = true
instance (W H : Int) (zs : List Int) (x y n : Int) : Decidable (getOk W H zs x y n) := by unfold getOk; exact inferInstance
def getL (W H : Int) (zs : List Int) (x y n : Int) : List Int := if getOk W H zs x y n then rowL (n.toNat * n.toNat) (getF W H zs x y n.toNat) else []
theorem sq_small {N : Nat} (h : N ≤ 8) : N * N ≤ 64 := Nat.mul_le_mul h h
theorem get_at {N i : Nat} (W H : Int) (zs : List Int) (x y : Int) (j : Nat) (hi : i < N) : getF W H zs x y N (j * N + i) = atV W H zs (x + (i : Int)) (y + (j : Int)) := by
  unfold getF
  have e1 : (j * N + i) % N = i := by rw [Nat.add_comm, Nat.add_mul_mod_self_right, Nat.mod_eq_of_lt hi]
  have e2 : (j * N + i) / N = j := by rw [Nat.add_comm, Nat.add_mul_div_right _ _ (by omega), Nat.div_eq_of_lt hi, Nat.zero_add]
  rw [e1, e2]
/-- a frame's three cells -/
def FrB3 (w : World) (b : Nat) (W H : Int) (v : Value) : Prop := w.cell? ⟨b, 0, none⟩ = some (.int .i64 W) ∧ w.cell? ⟨b, 1, none⟩ = some (.int .i64 H) ∧ w.cell? ⟨b, 2, none⟩ = some v
theorem FrB3.ext {w w' : World} {b : Nat} {W H : Int} {v : Value} (h : FrB3 w b W H v) (k : Ext w w') : FrB3 w' b W H v := ⟨k.cell h.1, k.cell h.2.1, k.cell h.2.2⟩
theorem FrB3.new (w : World) (W H : Int) (v : Value) : FrB3 (w.alloc (.cells #[.int .i64 W, .int .i64 H, v] 67)) w.heap.size W H v := ⟨by simp, by simp, by simp⟩
set_option maxHeartbeats 4000000 in
set_option maxRecDepth 20000 in
theorem get_ok (W H x y : Int) (N : Nat) (zs : List Int) (a : Option Addr) (n cap : Nat) (w : World) (h : Ints w (.slice a n cap) zs) (hm : may W H zs) (hN : 1 ≤ N ∧ N ≤ 8) (hx : -65536 ≤ x ∧ x ≤ 65536) (hy : -65536 ≤ y ∧ y ≤ 65536) :
    Calls Tryd.prog 52 #[.agg #[.int .i64 W, .int .i64 H, .slice a n cap], .int .i64 x, .int .i64 y, .int .i64 (N : Int)] w fun e w' => ∃ u, e = .returned u ∧ Ext w w' ∧ Ints w' u (rowL (N * N) (getF W H zs x y N)) := by
  obtain ⟨i0, hi, hz0, hz1, hz2⟩ := info_parts infoInt
  have M1 := Lib.hid (fun w h => may_any W H zs a n cap w h)
  have A1 := Lib.hid (fun (w : World) (x y : Int) (h : Ints w (.slice a n cap) zs) => at_any W H x y zs a n cap w h hm)
  have H1 := Lib.hid hm
  obtain ⟨hN1, hN2⟩ := hN
  obtain ⟨hx1, hx2⟩ := hx
  obtain ⟨hy1, hy2⟩ := hy
  have hs := sq_small hN2
  have g1 : nearB x = true := by unfold nearB; simp; omega
  have g2 : nearB y = true := by unfold nearB; simp; omega
  have e1 : IntKind.i64.wrap ((N : Int) * (N : Int)) = ((N * N : Nat) : Int) := by rw [IntKind.wrap_i64]; push_cast; have := Int.ofNat_le.2 hs; push_cast at this; omega
  clear hm
  go_enter Tryd.func52, Tryd.ntmps52
  go_wp2_with fail
  refine (M1.out _ (h.ext (by repeat (first | exact Ext.refl _ | assumption | refine Ext.alloc ?_ _ | refine Ext.drew ?_ | refine Ext.drewN ?_ _ | refine Ext.setCell ?_ (by first | exact Nat.le_refl _ | (simp; done) | omega) _ | refine Ext.trans ?_ (by assumption))))).mono ?_; rintro e w1 ⟨rfl, hx1'⟩
  rw [decide_eq_true H1.out]
  have FB := Lib.hid ((FrB3.new w W H (.slice a n cap)).ext hx1')
  have E1 : Ext w w1 := (by repeat (first | exact Ext.refl _ | assumption | refine Ext.alloc ?_ _ | refine Ext.drew ?_ | refine Ext.drewN ?_ _ | refine Ext.setCell ?_ (by first | exact Nat.le_refl _ | (simp; done) | omega) _ | refine Ext.trans ?_ (by assumption)))
  clear hx1'
  go_wp2_with (first | (go_at_call 76; refine (near_any _ _).mono ?_; rintro e w' ⟨rfl, rfl⟩) | (at_make; refine wpList_make_own _ rfl _ _ 65 rfl w1.heap.size 3 i0 (.int .i64 0) 1 Tryd.underlying65 hi hz0 hz1 .i64 .i64 _ (N * N) rfl rfl rfl (by rw [hz2]; omega) (by unfold maxLen; omega) (Nat.le_refl _) ?_; intro w2 hown hgrow))
  have hE2 : Ext w1 w2 := Below.grown (Below.refl _ _) hgrow (Nat.le_refl _) (fun k hk => by cases hk)
  clear hgrow hi hz0 hz1 hz2
  go_loopw [9, 38] (fun bv jv wr => ∃ j : Nat, j ≤ N ∧ jv = .int .i64 j ∧ Hid (wr.ownsRow w1.heap.size 3 1 bv (j * N) ((rowL (j * N) (getF W H zs x y N)).map (Value.int .i64))) ∧ Ext w1 wr) (fun _ jv _ => N - (intOf jv).toNat)
  case atStart => exact ⟨0, Nat.zero_le _, rfl, by show World.ownsRow _ _ _ _ _ _ _; rw [Nat.zero_mul]; exact hown, hE2⟩
  case round =>
    clear hown hE2
    obtain ⟨j, hj, rfl, HO, hE⟩ := hrel
    by_cases hlt : j < N
    · have t1 : decide ((j : Int) < (N : Int)) = true := decide_eq_true (by omega)
      go_wp2_with fail
      go_loopw [9, 42] (fun bv iv wr => ∃ i : Nat, i ≤ N ∧ iv = .int .i64 i ∧ Hid (wr.ownsRow w1.heap.size 3 1 bv (j * N + i) ((rowL (j * N + i) (getF W H zs x y N)).map (Value.int .i64))) ∧ Ext w1 wr) (fun _ iv _ => N - (intOf iv).toNat)
      case atStart => exact ⟨0, Nat.zero_le _, rfl, by simpa using HO, hE⟩
      case round =>
        clear HO hE
        obtain ⟨i, hi, rfl, HO, hE⟩ := hrel
        obtain ⟨p0, p1, p2⟩ := FB.out.ext hE
        by_cases hit : i < N
        · have d1 : IntKind.i64.wrap (x + (i : Int)) = x + (i : Int) := by rw [IntKind.wrap_i64]; omega
          have d2 : IntKind.i64.wrap (y + (j : Int)) = y + (j : Int) := by rw [IntKind.wrap_i64]; omega
          have HS := Lib.hid (get_at W H zs x y j hit)
          have hsm : j * N + i ≤ 1000 := by
            have := Nat.mul_le_mul hj hN2
            omega
          go_wp2_with fail
          refine (A1.out _ (x + i) (y + j) (h.ext (E1.trans hE))).mono ?_; rintro e w5 ⟨rfl, hx5⟩
          have HO5 := Lib.hid (own_ext HO.out hx5)
          have E5 : Ext w1 w5 := hE.trans hx5
          have B5 := E5.size
          clear HO hE hx5 p0 p1 p2
          go_wp2_with (at_builtin; refine push_int rfl _ _ 65 rfl Tryd.underlying65 _ _ _ _ rfl HO5.out (by show Value.slice (some ⟨w5.heap.size, 0, none⟩) 1 1 = _; simp) B5 (by omega) ?_; intro v' w7 h1 h2)
          have E7 : Ext w1 w7 := E5.of_below h2 (Nat.le_refl _)
          have HO7 := Lib.hid h1
          clear h1 h2
          go_roundw
          case rel => exact ⟨i + 1, by omega, by go_num, by
            show World.ownsRow _ _ _ _ _ _ _
            rw [← Nat.add_assoc, rowL_sn, HS.out]
            exact HO7.out, E7⟩
          case measure => simp [intOf]; omega
        · obtain rfl : i = N := by omega
          go_wp2
          go_roundw
          case rel => exact ⟨j + 1, by omega, by go_num, by
            show World.ownsRow _ _ _ _ _ _ _
            rw [Nat.succ_mul]
            exact HO.out, hE⟩
          case measure => simp [intOf]; omega
    · obtain rfl : j = N := by omega
      go_wp2
      go_ret
      exact ⟨_, rfl, E1.trans hE, Ints.of_row HO.out (by omega)⟩
set_option maxHeartbeats 2000000 in
set_option maxRecDepth 20000 in
theorem get_no (W H x y i : Int) (zs : List Int) (a : Option Addr) (n cap : Nat) (w : World) (h : Ints w (.slice a n cap) zs) (hm : ¬ getOk W H zs x y i) :
    Calls Tryd.prog 52 #[.agg #[.int .i64 W, .int .i64 H, .slice a n cap], .int .i64 x, .int .i64 y, .int .i64 i] w fun e w' => ∃ u, e = .returned u ∧ Ext w w' ∧ Ints w' u [] := by
  have M1 := Lib.hid (fun w h => may_any W H zs a n cap w h)
  by_cases h1 : may W H zs
  · have H1 := Lib.hid h1
    have hb : ¬ ((1 ≤ i ∧ i ≤ 8) ∧ (-65536 ≤ x ∧ x ≤ 65536) ∧ -65536 ≤ y ∧ y ≤ 65536) := fun ⟨k1, k2, k3⟩ => hm ⟨h1, k1, by unfold nearB; simp; omega, by unfold nearB; simp; omega⟩
    clear hm h1
    by_cases c1 : i < 1
    · clear hb
      go_enter Tryd.func52, Tryd.ntmps52
      go_wp2_with fail
      refine (M1.out _ (h.ext (by repeat (first | exact Ext.refl _ | assumption | refine Ext.alloc ?_ _ | refine Ext.drew ?_ | refine Ext.drewN ?_ _ | refine Ext.setCell ?_ (by first | exact Nat.le_refl _ | (simp; done) | omega) _ | refine Ext.trans ?_ (by assumption))))).mono ?_; rintro e w1 ⟨rfl, hx1'⟩
      rw [decide_eq_true H1.out]
      go_wp2_with (go_at_call 76; refine (near_any _ _).mono ?_; rintro e w' ⟨rfl, rfl⟩)
      go_ret
      exact ⟨_, rfl, (by repeat (first | exact Ext.refl _ | assumption | refine Ext.alloc ?_ _ | refine Ext.drew ?_ | refine Ext.drewN ?_ _ | refine Ext.setCell ?_ (by first | exact Nat.le_refl _ | (simp; done) | omega) _ | refine Ext.trans ?_ (by assumption))), Ints.nil _⟩
    · by_cases c2 : 8 < i
      · clear hb
        go_enter Tryd.func52, Tryd.ntmps52
        go_wp2_with fail
        refine (M1.out _ (h.ext (by repeat (first | exact Ext.refl _ | assumption | refine Ext.alloc ?_ _ | refine Ext.drew ?_ | refine Ext.drewN ?_ _ | refine Ext.setCell ?_ (by first | exact Nat.le_refl _ | (simp; done) | omega) _ | refine Ext.trans ?_ (by assumption))))).mono ?_; rintro e w1 ⟨rfl, hx1'⟩
        rw [decide_eq_true H1.out]
        go_wp2_with (go_at_call 76; refine (near_any _ _).mono ?_; rintro e w' ⟨rfl, rfl⟩)
        go_ret
        exact ⟨_, rfl, (by repeat (first | exact Ext.refl _ | assumption | refine Ext.alloc ?_ _ | refine Ext.drew ?_ | refine Ext.drewN ?_ _ | refine Ext.setCell ?_ (by first | exact Nat.le_refl _ | (simp; done) | omega) _ | refine Ext.trans ?_ (by assumption))), Ints.nil _⟩
      · by_cases c3 : x < -65536
        · have g1 : nearB x = false := by unfold nearB; simp; omega
          clear hb
          go_enter Tryd.func52, Tryd.ntmps52
          go_wp2_with fail
          refine (M1.out _ (h.ext (by repeat (first | exact Ext.refl _ | assumption | refine Ext.alloc ?_ _ | refine Ext.drew ?_ | refine Ext.drewN ?_ _ | refine Ext.setCell ?_ (by first | exact Nat.le_refl _ | (simp; done) | omega) _ | refine Ext.trans ?_ (by assumption))))).mono ?_; rintro e w1 ⟨rfl, hx1'⟩
          rw [decide_eq_true H1.out]
          go_wp2_with (go_at_call 76; refine (near_any _ _).mono ?_; rintro e w' ⟨rfl, rfl⟩)
          go_ret
          exact ⟨_, rfl, (by repeat (first | exact Ext.refl _ | assumption | refine Ext.alloc ?_ _ | refine Ext.drew ?_ | refine Ext.drewN ?_ _ | refine Ext.setCell ?_ (by first | exact Nat.le_refl _ | (simp; done) | omega) _ | refine Ext.trans ?_ (by assumption))), Ints.nil _⟩
        · by_cases c4 : 65536 < x
          · have g1 : nearB x = false := by unfold nearB; simp; omega
            clear hb
            go_enter Tryd.func52, Tryd.ntmps52
            go_wp2_with fail
            refine (M1.out _ (h.ext (by repeat (first | exact Ext.refl _ | assumption | refine Ext.alloc ?_ _ | refine Ext.drew ?_ | refine Ext.drewN ?_ _ | refine Ext.setCell ?_ (by first | exact Nat.le_refl _ | (simp; done) | omega) _ | refine Ext.trans ?_ (by assumption))))).mono ?_; rintro e w1 ⟨rfl, hx1'⟩
            rw [decide_eq_true H1.out]
            go_wp2_with (go_at_call 76; refine (near_any _ _).mono ?_; rintro e w' ⟨rfl, rfl⟩)
            go_ret
            exact ⟨_, rfl, (by repeat (first | exact Ext.refl _ | assumption | refine Ext.alloc ?_ _ | refine Ext.drew ?_ | refine Ext.drewN ?_ _ | refine Ext.setCell ?_ (by first | exact Nat.le_refl _ | (simp; done) | omega) _ | refine Ext.trans ?_ (by assumption))), Ints.nil _⟩
          · have g1 : nearB x = true := by unfold nearB; simp; omega
            by_cases c5 : y < -65536
            · have g2 : nearB y = false := by unfold nearB; simp; omega
              clear hb
              go_enter Tryd.func52, Tryd.ntmps52
              go_wp2_with fail
              refine (M1.out _ (h.ext (by repeat (first | exact Ext.refl _ | assumption | refine Ext.alloc ?_ _ | refine Ext.drew ?_ | refine Ext.drewN ?_ _ | refine Ext.setCell ?_ (by first | exact Nat.le_refl _ | (simp; done) | omega) _ | refine Ext.trans ?_ (by assumption))))).mono ?_; rintro e w1 ⟨rfl, hx1'⟩
              rw [decide_eq_true H1.out]
              go_wp2_with (go_at_call 76; refine (near_any _ _).mono ?_; rintro e w' ⟨rfl, rfl⟩)
              go_ret
              exact ⟨_, rfl, (by repeat (first | exact Ext.refl _ | assumption | refine Ext.alloc ?_ _ | refine Ext.drew ?_ | refine Ext.drewN ?_ _ | refine Ext.setCell ?_ (by first | exact Nat.le_refl _ | (simp; done) | omega) _ | refine Ext.trans ?_ (by assumption))), Ints.nil _⟩
            · have c6 : 65536 < y := by omega
              have g2 : nearB y = false := by unfold nearB; simp; omega
              clear hb
              go_enter Tryd.func52, Tryd.ntmps52
              go_wp2_with fail
              refine (M1.out _ (h.ext (by repeat (first | exact Ext.refl _ | assumption | refine Ext.alloc ?_ _ | refine Ext.drew ?_ | refine Ext.drewN ?_ _ | refine Ext.setCell ?_ (by first | exact Nat.le_refl _ | (simp; done) | omega) _ | refine Ext.trans ?_ (by assumption))))).mono ?_; rintro e w1 ⟨rfl, hx1'⟩
              rw [decide_eq_true H1.out]
              go_wp2_with (go_at_call 76; refine (near_any _ _).mono ?_; rintro e w' ⟨rfl, rfl⟩)
              go_ret
              exact ⟨_, rfl, (by repeat (first | exact Ext.refl _ | assumption | refine Ext.alloc ?_ _ | refine Ext.drew ?_ | refine Ext.drewN ?_ _ | refine Ext.setCell ?_ (by first | exact Nat.le_refl _ | (simp; done) | omega) _ | refine Ext.trans ?_ (by assumption))), Ints.nil _⟩
  · have H1 := Lib.hid h1
    clear hm h1
    go_enter Tryd.func52, Tryd.ntmps52
    go_wp2_with fail
    refine (M1.out _ (h.ext (by repeat (first | exact Ext.refl _ | assumption | refine Ext.alloc ?_ _ | refine Ext.drew ?_ | refine Ext.drewN ?_ _ | refine Ext.setCell ?_ (by first | exact Nat.le_refl _ | (simp; done) | omega) _ | refine Ext.trans ?_ (by assumption))))).mono ?_; rintro e w1 ⟨rfl, hx1'⟩
    rw [decide_eq_false H1.out]
    go_wp2
    go_ret
    exact ⟨_, rfl, (by repeat (first | exact Ext.refl _ | assumption | refine Ext.alloc ?_ _ | refine Ext.drew ?_ | refine Ext.drewN ?_ _ | refine Ext.setCell ?_ (by first | exact Nat.le_refl _ | (simp; done) | omega) _ | refine Ext.trans ?_ (by assumption))), Ints.nil _⟩
theorem get_any (W H x y i : Int) (zs : List Int) (a : Option Addr) (n cap : Nat) (w : World) (h : Ints w (.slice a n cap) zs) :
    Calls Tryd.prog 52 #[.agg #[.int .i64 W, .int .i64 H, .slice a n cap], .int .i64 x, .int .i64 y, .int .i64 i] w fun e w' => ∃ u, e = .returned u ∧ Ext w w' ∧ Ints w' u (getL W H zs x y i) := by
  unfold getL
  by_cases ho : getOk W H zs x y i
  · rw [if_pos ho]
    obtain ⟨h1, h2, h3, h4⟩ := ho
    unfold nearB at h3 h4
    simp only [Bool.and_eq_true, decide_eq_true_eq] at h3 h4
    obtain ⟨N, rfl⟩ : ∃ N : Nat, i = (N : Int) := ⟨i.toNat, by omega⟩
    exact get_ok W H x y N zs a n cap w h h1 (by omega) h3 h4
  · rw [if_neg ho]
    exact get_no W H x y i zs a n cap w h ho
end Go.Proofs.YtaamnpbhmckpbaaDoor

/- Two frames in the boxes of a law: their cells. -/
namespace Go.Proofs.YtaamnpbhmckpbaaDoor
set_option linter.unusedVariables false
set_option linter.unusedSimpArgs false
open Go.RowKit Go.Extern.Stop Go.Stop Go.Extern

/-- a frame's three cells -/
def FrBox (w : World) (b : Nat) (W H : Int) (v : Value) : Prop := w.cell? ⟨b, 0, none⟩ = some (.int .i64 W) ∧ w.cell? ⟨b, 1, none⟩ = some (.int .i64 H) ∧ w.cell? ⟨b, 2, none⟩ = some v
theorem FrBox.ext {w w' : World} {b : Nat} {W H : Int} {v : Value} (h : FrBox w b W H v) (k : Ext w w') : FrBox w' b W H v := ⟨k.cell h.1, k.cell h.2.1, k.cell h.2.2⟩
theorem FrBox.new (w : World) (W H : Int) (v : Value) : FrBox (w.alloc (.cells #[.int .i64 W, .int .i64 H, v] 67)) w.heap.size W H v := ⟨by simp, by simp, by simp⟩
theorem FrBox.two (w : World) (W H W' H' : Int) (v v' : Value) :
    FrBox ((w.alloc (.cells #[.int .i64 W, .int .i64 H, v] 67)).alloc (.cells #[.int .i64 W', .int .i64 H', v'] 67)) w.heap.size W H v ∧
    FrBox ((w.alloc (.cells #[.int .i64 W, .int .i64 H, v] 67)).alloc (.cells #[.int .i64 W', .int .i64 H', v'] 67)) (w.heap.size + 1) W' H' v' := by
  refine ⟨(FrBox.new w W H v).ext ((Ext.refl _).alloc _), ?_⟩
  have := FrBox.new (w.alloc (.cells #[.int .i64 W, .int .i64 H, v] 67)) W' H' v'
  simpa using this
end Go.Proofs.YtaamnpbhmckpbaaDoor

/- motion.at, half, Half; kinref11.down, at, half, Half: contracts over this seat's translation. -/
namespace Go.Proofs.YtaamnpbhmckpbaaDoor
set_option linter.unusedVariables false
set_option linter.unusedSimpArgs false
open Go.RowKit Go.Extern.Stop Go.Stop Go.Extern

theorem and1 (x : Int) : bits .and .i64 x 1 = x % 2 := by
  have e : (BitVec.ofInt 64 x &&& BitVec.ofInt 64 1).toNat = (x % 2).toNat := by
    rw [BitVec.toNat_and, show (BitVec.ofInt 64 1).toNat = 1 by decide, Nat.and_one_is_mod, BitVec.toNat_ofInt]
    omega
  show IntKind.i64.wrap (((BitVec.ofInt 64 x &&& BitVec.ofInt 64 1).toNat : Nat) : Int) = x % 2
  rw [e, IntKind.wrap_i64]
  omega
set_option maxRecDepth 20000 in
set_option maxHeartbeats 2000000 in
theorem mat_any (W H x y : Int) (zs : List Int) (a : Option Addr) (n cap : Nat) (w : World) (h : Ints w (.slice a n cap) zs) (hm : may W H zs) :
    Calls Tryd.prog 82 #[.agg #[.int .i64 W, .int .i64 H, .slice a n cap], .int .i64 x, .int .i64 y] w fun e w' => e = .returned (.int .i64 (atV W H zs x y)) ∧ Ext w w' := by
  obtain ⟨k, hk, hk1, b1, b2, b3, b4, b5⟩ := at_place hm x y
  have hW := sideB_true hm.1
  have hH := sideB_true hm.2.1
  have hl := h.len
  obtain ⟨g, off, rfl⟩ := h.had (by omega)
  have E1 : Ext w (w.alloc (.cells #[.int .i64 W, .int .i64 H, .slice (some ⟨g, off, none⟩) n cap] 67)) := (Ext.refl w).alloc _
  have c1 := E1.cell (h.at (get_of_lt hk1))
  have p0 : (w.alloc (.cells #[.int .i64 W, .int .i64 H, .slice (some ⟨g, off, none⟩) n cap] 67)).cell? ⟨w.heap.size, 0, none⟩ = some (.int .i64 W) := by simp
  have p1 : (w.alloc (.cells #[.int .i64 W, .int .i64 H, .slice (some ⟨g, off, none⟩) n cap] 67)).cell? ⟨w.heap.size, 1, none⟩ = some (.int .i64 H) := by simp
  have p2 : (w.alloc (.cells #[.int .i64 W, .int .i64 H, .slice (some ⟨g, off, none⟩) n cap] 67)).cell? ⟨w.heap.size, 2, none⟩ = some (.slice (some ⟨g, off, none⟩) n cap) := by simp
  have HR : Hid (atV W H zs x y = zs.getD k 0) := by show _ = _; unfold atV; rw [hk]; rfl
  revert c1 HR
  generalize zs.getD k 0 = z
  intro c1 HR
  have r1 := mx2
  have r2 := mn2
  obtain ⟨cx, hcx⟩ : ∃ cx, cx = clampI x W := ⟨_, rfl⟩
  obtain ⟨cy, hcy⟩ : ∃ cy, cy = clampI y H := ⟨_, rfl⟩
  rw [← hcx, ← hcy] at hk
  rw [← hcy] at b1 b2
  rw [← hcx] at b4 b5
  have f1 : max 0 (min y (H - 1)) = cy := by rw [hcy]; unfold clampI; omega
  have f2 : max 0 (min x (W - 1)) = cx := by rw [hcx]; unfold clampI; omega
  have e1 : IntKind.i64.wrap (W - 1) = W - 1 := by rw [IntKind.wrap_i64]; omega
  have e2 : IntKind.i64.wrap (H - 1) = H - 1 := by rw [IntKind.wrap_i64]; omega
  have e3 : IntKind.i64.wrap (cy * W) = cy * W := by rw [IntKind.wrap_i64]; omega
  have e4 : IntKind.i64.wrap (cy * W + cx) = (k : Int) := by rw [IntKind.wrap_i64]; omega
  have k1 : (0 : Int) ≤ (k : Int) ∧ (k : Int) < (n : Int) := by omega
  clear hcx hcy hk hm hl hk1 hW hH b1 b2 b3 b4 b5
  go_enter Tryd.func82, Tryd.ntmps82
  go_wp2
  go_region
  all_goals go_wp2
  all_goals go_ret
  all_goals exact ⟨by rw [HR.out]; rfl, E1.drew⟩
set_option maxRecDepth 20000 in
set_option maxHeartbeats 2000000 in
theorem rmat_any (W H x y : Int) (zs : List Int) (a : Option Addr) (n cap : Nat) (w : World) (h : Ints w (.slice a n cap) zs) (hm : may W H zs) :
    Calls Tryd.prog 84 #[.agg #[.int .i64 W, .int .i64 H, .slice a n cap], .int .i64 x, .int .i64 y] w fun e w' => e = .returned (.int .i64 (atV W H zs x y)) ∧ Ext w w' := by
  obtain ⟨k, hk, hk1, b1, b2, b3, b4, b5⟩ := at_place hm x y
  have hW := sideB_true hm.1
  have hH := sideB_true hm.2.1
  have hl := h.len
  obtain ⟨g, off, rfl⟩ := h.had (by omega)
  have E1 : Ext w (w.alloc (.cells #[.int .i64 W, .int .i64 H, .slice (some ⟨g, off, none⟩) n cap] 67)) := (Ext.refl w).alloc _
  have c1 := E1.cell (h.at (get_of_lt hk1))
  have p0 : (w.alloc (.cells #[.int .i64 W, .int .i64 H, .slice (some ⟨g, off, none⟩) n cap] 67)).cell? ⟨w.heap.size, 0, none⟩ = some (.int .i64 W) := by simp
  have p1 : (w.alloc (.cells #[.int .i64 W, .int .i64 H, .slice (some ⟨g, off, none⟩) n cap] 67)).cell? ⟨w.heap.size, 1, none⟩ = some (.int .i64 H) := by simp
  have p2 : (w.alloc (.cells #[.int .i64 W, .int .i64 H, .slice (some ⟨g, off, none⟩) n cap] 67)).cell? ⟨w.heap.size, 2, none⟩ = some (.slice (some ⟨g, off, none⟩) n cap) := by simp
  have HR : Hid (atV W H zs x y = zs.getD k 0) := by show _ = _; unfold atV; rw [hk]; rfl
  revert c1 HR
  generalize zs.getD k 0 = z
  intro c1 HR
  have r1 := mx2
  have r2 := mn2
  obtain ⟨cx, hcx⟩ : ∃ cx, cx = clampI x W := ⟨_, rfl⟩
  obtain ⟨cy, hcy⟩ : ∃ cy, cy = clampI y H := ⟨_, rfl⟩
  rw [← hcx, ← hcy] at hk
  rw [← hcy] at b1 b2
  rw [← hcx] at b4 b5
  have f1 : min (max y 0) (H - 1) = cy := by rw [hcy]; unfold clampI; omega
  have f2 : min (max x 0) (W - 1) = cx := by rw [hcx]; unfold clampI; omega
  have e1 : IntKind.i64.wrap (W - 1) = W - 1 := by rw [IntKind.wrap_i64]; omega
  have e2 : IntKind.i64.wrap (H - 1) = H - 1 := by rw [IntKind.wrap_i64]; omega
  have e3 : IntKind.i64.wrap (cy * W) = cy * W := by rw [IntKind.wrap_i64]; omega
  have e4 : IntKind.i64.wrap (cy * W + cx) = (k : Int) := by rw [IntKind.wrap_i64]; omega
  have k1 : (0 : Int) ≤ (k : Int) ∧ (k : Int) < (n : Int) := by omega
  clear hcx hcy hk hm hl hk1 hW hH b1 b2 b3 b4 b5
  go_enter Tryd.func84, Tryd.ntmps84
  go_wp2
  go_ret
  exact ⟨by rw [HR.out]; rfl, E1⟩
/-- the sample of a half place -/
def halfV (W H : Int) (zs : List Int) (hx hy : Int) : Int :=
  if hx % 2 = 1 then (if hy % 2 = 1 then (atV W H zs (hx / 2) (hy / 2) + atV W H zs (hx / 2 + 1) (hy / 2) + atV W H zs (hx / 2) (hy / 2 + 1) + atV W H zs (hx / 2 + 1) (hy / 2 + 1) + 2) / 4 else (atV W H zs (hx / 2) (hy / 2) + atV W H zs (hx / 2 + 1) (hy / 2) + 1) / 2)
  else if hy % 2 = 1 then (atV W H zs (hx / 2) (hy / 2) + atV W H zs (hx / 2) (hy / 2 + 1) + 1) / 2 else atV W H zs (hx / 2) (hy / 2)
theorem down_any (x : Int) (hx : -1000000 ≤ x ∧ x ≤ 1000000) (w : World) : Calls Tryd.prog 83 #[.int .i64 x] w fun e w' => e = .returned (.int .i64 (x / 2)) ∧ w = w' := by
  obtain ⟨q, hq⟩ : ∃ q, q = x / 2 := ⟨_, rfl⟩
  have b1 : bits .and .i64 x 1 = x - 2 * q := by rw [and1]; omega
  have b2 : IntKind.i64.wrap (x - (x - 2 * q)) = 2 * q := by rw [IntKind.wrap_i64]; omega
  have b3 : Int.tdiv (2 * q) 2 = q := Int.mul_tdiv_cancel_left q (by decide)
  have b4 : (2 * q) / 2 = q := by omega
  have b5 : IntKind.i64.wrap q = q := by rw [IntKind.wrap_i64]; omega
  rw [← hq]
  have hqb : -1000000 ≤ q ∧ q ≤ 1000000 := by omega
  clear hq
  go_enter Tryd.func83, Tryd.ntmps83
  go_wp2
  go_ret
  exact ⟨rfl, rfl⟩
theorem atV_in {W H : Int} {zs : List Int} (h : may W H zs) (x y : Int) : 0 ≤ atV W H zs x y ∧ atV W H zs x y ≤ 255 := may_getD h _
set_option maxRecDepth 20000 in
set_option maxHeartbeats 4000000 in
theorem mhalf_any (W H hx hy : Int) (zs : List Int) (a : Option Addr) (n cap : Nat) (w : World) (h : Ints w (.slice a n cap) zs) (hm : may W H zs) (bx : -900000 ≤ hx ∧ hx ≤ 900000) (by' : -900000 ≤ hy ∧ hy ≤ 900000) :
    Calls Tryd.prog 62 #[.agg #[.int .i64 W, .int .i64 H, .slice a n cap], .int .i64 hx, .int .i64 hy] w fun e w' => e = .returned (.int .i64 (halfV W H zs hx hy)) ∧ Ext w w' := by
  have A := Lib.hid (fun (w : World) (x y : Int) (h : Ints w (.slice a n cap) zs) => mat_any W H x y zs a n cap w h hm)
  have F0 := FrBox.new w W H (.slice a n cap)
  have E0 : Ext w (w.alloc (.cells #[.int .i64 W, .int .i64 H, .slice a n cap] 67)) := (Ext.refl w).alloc _
  obtain ⟨X, hX⟩ : ∃ X, hx / 2 = X := ⟨_, rfl⟩
  obtain ⟨Y, hY⟩ : ∃ Y, hy / 2 = Y := ⟨_, rfl⟩
  have v0 := atV_in hm X Y
  have v1 := atV_in hm (X + 1) Y
  have v2 := atV_in hm X (Y + 1)
  have v3 := atV_in hm (X + 1) (Y + 1)
  have e1 : IntKind.i64.wrap (X + 1) = X + 1 := by rw [IntKind.wrap_i64]; omega
  have e2 : IntKind.i64.wrap (Y + 1) = Y + 1 := by rw [IntKind.wrap_i64]; omega
  by_cases ox : hx % 2 = 1
  · have bX : bits .and .i64 hx 1 = 1 := by rw [and1]; exact ox
    by_cases oy : hy % 2 = 1
    · have bY : bits .and .i64 hy 1 = 1 := by rw [and1]; exact oy
      have HR : Hid (halfV W H zs hx hy = (atV W H zs X Y + atV W H zs (X + 1) Y + atV W H zs X (Y + 1) + atV W H zs (X + 1) (Y + 1) + 2) / 4) := by show _ = _; unfold halfV; rw [if_pos ox, if_pos oy, hX, hY]
      have s1 : IntKind.i64.wrap (atV W H zs X Y + atV W H zs (X + 1) Y) = atV W H zs X Y + atV W H zs (X + 1) Y := by rw [IntKind.wrap_i64]; omega
      have s2 : IntKind.i64.wrap (atV W H zs X Y + atV W H zs (X + 1) Y + atV W H zs X (Y + 1)) = atV W H zs X Y + atV W H zs (X + 1) Y + atV W H zs X (Y + 1) := by rw [IntKind.wrap_i64]; omega
      have s3 : IntKind.i64.wrap (atV W H zs X Y + atV W H zs (X + 1) Y + atV W H zs X (Y + 1) + atV W H zs (X + 1) (Y + 1)) = atV W H zs X Y + atV W H zs (X + 1) Y + atV W H zs X (Y + 1) + atV W H zs (X + 1) (Y + 1) := by rw [IntKind.wrap_i64]; omega
      have s4 : IntKind.i64.wrap (atV W H zs X Y + atV W H zs (X + 1) Y + atV W H zs X (Y + 1) + atV W H zs (X + 1) (Y + 1) + 2) = atV W H zs X Y + atV W H zs (X + 1) Y + atV W H zs X (Y + 1) + atV W H zs (X + 1) (Y + 1) + 2 := by rw [IntKind.wrap_i64]; omega
      have s5 : Int.tdiv (atV W H zs X Y + atV W H zs (X + 1) Y + atV W H zs X (Y + 1) + atV W H zs (X + 1) (Y + 1) + 2) 4 = (atV W H zs X Y + atV W H zs (X + 1) Y + atV W H zs X (Y + 1) + atV W H zs (X + 1) (Y + 1) + 2) / 4 := Int.tdiv_eq_ediv_of_nonneg (by omega)
      have s6 : IntKind.i64.wrap ((atV W H zs X Y + atV W H zs (X + 1) Y + atV W H zs X (Y + 1) + atV W H zs (X + 1) (Y + 1) + 2) / 4) = (atV W H zs X Y + atV W H zs (X + 1) Y + atV W H zs X (Y + 1) + atV W H zs (X + 1) (Y + 1) + 2) / 4 := by rw [IntKind.wrap_i64]; omega
      clear v0 v1 v2 v3 ox oy hm
      go_enter Tryd.func62, Tryd.ntmps62
      go_wp2_with fail
      revert F0 E0
      generalize w.alloc (.cells #[.int .i64 W, .int .i64 H, .slice a n cap] 67) = w0
      intro F0 E0
      have FB := Lib.hid F0
      clear F0
      refine (A.out _ _ _ (h.ext E0)).mono ?_; rintro e w2 ⟨rfl, hx2⟩
      have E2 := E0.trans hx2
      obtain ⟨p0, p1, p2⟩ := FB.out.ext hx2
      clear hx2 E0
      have HA := Lib.hid (h.ext E2)
      go_wp2_with fail
      go_region_held3 (fun w' => w'.cell? ⟨w.heap.size, 0, none⟩ = some (.int .i64 W) ∧ w'.cell? ⟨w.heap.size, 1, none⟩ = some (.int .i64 H) ∧ w'.cell? ⟨w.heap.size, 2, none⟩ = some (.slice a n cap) ∧ Ext w2 w')
        (first | assumption | (exact ⟨p0, p1, p2, Ext.refl _⟩) | (exact ⟨p0, p1, p2, (Ext.refl _).drew⟩) | (go_split_ands; exact ⟨hx.cell (by assumption), hx.cell (by assumption), hx.cell (by assumption), Ext.trans (by assumption) hx⟩))
        ((go_at_call 82; obtain ⟨_, _, _, hE1⟩ : _ ∧ _ ∧ _ ∧ Ext w2 _ := (by assumption); refine (A.out _ _ _ (HA.out.ext hE1)).mono ?_; rintro e w' ⟨rfl, hx⟩))
      all_goals obtain ⟨_, _, _, hE1⟩ : _ ∧ _ ∧ _ ∧ Ext w2 _ := by assumption
      all_goals go_wp2
      all_goals go_ret
      all_goals exact ⟨by rw [HR.out]; rfl, E2.trans hE1⟩
    · have bY : bits .and .i64 hy 1 = 0 := by rw [and1]; omega
      have HR : Hid (halfV W H zs hx hy = (atV W H zs X Y + atV W H zs (X + 1) Y + 1) / 2) := by show _ = _; unfold halfV; rw [if_pos ox, if_neg oy, hX, hY]
      clear ox oy hm v2 v3
      go_enter Tryd.func62, Tryd.ntmps62
      go_wp2_with fail
      revert F0 E0
      generalize w.alloc (.cells #[.int .i64 W, .int .i64 H, .slice a n cap] 67) = w0
      intro F0 E0
      have FB := Lib.hid F0
      clear F0
      refine (A.out _ _ _ (h.ext E0)).mono ?_; rintro e w2 ⟨rfl, hx2⟩
      have E2 := E0.trans hx2
      obtain ⟨p0, p1, p2⟩ := FB.out.ext hx2
      clear hx2 E0
      go_wp2_with fail
      refine (A.out _ _ _ (h.ext E2)).mono ?_; rintro e w3 ⟨rfl, hx3⟩
      go_wp2
      go_ret
      exact ⟨by rw [HR.out]; rfl, E2.trans hx3⟩
  · have bX : bits .and .i64 hx 1 = 0 := by rw [and1]; omega
    by_cases oy : hy % 2 = 1
    · have bY : bits .and .i64 hy 1 = 1 := by rw [and1]; exact oy
      have HR : Hid (halfV W H zs hx hy = (atV W H zs X Y + atV W H zs X (Y + 1) + 1) / 2) := by show _ = _; unfold halfV; rw [if_neg ox, if_pos oy, hX, hY]
      clear ox oy hm v1 v3
      go_enter Tryd.func62, Tryd.ntmps62
      go_wp2_with fail
      revert F0 E0
      generalize w.alloc (.cells #[.int .i64 W, .int .i64 H, .slice a n cap] 67) = w0
      intro F0 E0
      have FB := Lib.hid F0
      clear F0
      refine (A.out _ _ _ (h.ext E0)).mono ?_; rintro e w2 ⟨rfl, hx2⟩
      have E2 := E0.trans hx2
      obtain ⟨p0, p1, p2⟩ := FB.out.ext hx2
      clear hx2 E0
      go_wp2_with fail
      refine (A.out _ _ _ (h.ext E2)).mono ?_; rintro e w3 ⟨rfl, hx3⟩
      go_wp2
      go_ret
      exact ⟨by rw [HR.out]; rfl, E2.trans hx3⟩
    · have bY : bits .and .i64 hy 1 = 0 := by rw [and1]; omega
      have HR : Hid (halfV W H zs hx hy = atV W H zs X Y) := by show _ = _; unfold halfV; rw [if_neg ox, if_neg oy, hX, hY]
      clear ox oy hm v1 v2 v3
      go_enter Tryd.func62, Tryd.ntmps62
      go_wp2_with fail
      revert F0 E0
      generalize w.alloc (.cells #[.int .i64 W, .int .i64 H, .slice a n cap] 67) = w0
      intro F0 E0
      have FB := Lib.hid F0
      clear F0
      refine (A.out _ _ _ (h.ext E0)).mono ?_; rintro e w2 ⟨rfl, hx2⟩
      have E2 := E0.trans hx2
      obtain ⟨p0, p1, p2⟩ := FB.out.ext hx2
      clear hx2 E0
      go_wp2
      go_ret
      exact ⟨by rw [HR.out]; rfl, E2⟩
set_option maxRecDepth 20000 in
set_option maxHeartbeats 4000000 in
theorem rhalf_any (W H hx hy : Int) (zs : List Int) (a : Option Addr) (n cap : Nat) (w : World) (h : Ints w (.slice a n cap) zs) (hm : may W H zs) (bx : -900000 ≤ hx ∧ hx ≤ 900000) (by' : -900000 ≤ hy ∧ hy ≤ 900000) :
    Calls Tryd.prog 63 #[.agg #[.int .i64 W, .int .i64 H, .slice a n cap], .int .i64 hx, .int .i64 hy] w fun e w' => e = .returned (.int .i64 (halfV W H zs hx hy)) ∧ Ext w w' := by
  have A := Lib.hid (fun (w : World) (x y : Int) (h : Ints w (.slice a n cap) zs) => rmat_any W H x y zs a n cap w h hm)
  have F0 := FrBox.new w W H (.slice a n cap)
  have E0 : Ext w (w.alloc (.cells #[.int .i64 W, .int .i64 H, .slice a n cap] 67)) := (Ext.refl w).alloc _
  obtain ⟨X, hX⟩ : ∃ X, hx / 2 = X := ⟨_, rfl⟩
  obtain ⟨Y, hY⟩ : ∃ Y, hy / 2 = Y := ⟨_, rfl⟩
  have v0 := atV_in hm X Y
  have v1 := atV_in hm (X + 1) Y
  have v2 := atV_in hm X (Y + 1)
  have v3 := atV_in hm (X + 1) (Y + 1)
  have e1 : IntKind.i64.wrap (X + 1) = X + 1 := by rw [IntKind.wrap_i64]; omega
  have e2 : IntKind.i64.wrap (Y + 1) = Y + 1 := by rw [IntKind.wrap_i64]; omega
  by_cases ox : hx % 2 = 1
  · have bX : bits .and .i64 hx 1 = 1 := by rw [and1]; exact ox
    by_cases oy : hy % 2 = 1
    · have bY : bits .and .i64 hy 1 = 1 := by rw [and1]; exact oy
      have HR : Hid (halfV W H zs hx hy = (atV W H zs X Y + atV W H zs (X + 1) Y + atV W H zs X (Y + 1) + atV W H zs (X + 1) (Y + 1) + 2) / 4) := by show _ = _; unfold halfV; rw [if_pos ox, if_pos oy, hX, hY]
      have s1 : IntKind.i64.wrap (atV W H zs X Y + atV W H zs (X + 1) Y) = atV W H zs X Y + atV W H zs (X + 1) Y := by rw [IntKind.wrap_i64]; omega
      have s2 : IntKind.i64.wrap (atV W H zs X Y + atV W H zs (X + 1) Y + atV W H zs X (Y + 1)) = atV W H zs X Y + atV W H zs (X + 1) Y + atV W H zs X (Y + 1) := by rw [IntKind.wrap_i64]; omega
      have s3 : IntKind.i64.wrap (atV W H zs X Y + atV W H zs (X + 1) Y + atV W H zs X (Y + 1) + atV W H zs (X + 1) (Y + 1)) = atV W H zs X Y + atV W H zs (X + 1) Y + atV W H zs X (Y + 1) + atV W H zs (X + 1) (Y + 1) := by rw [IntKind.wrap_i64]; omega
      have s4 : IntKind.i64.wrap (atV W H zs X Y + atV W H zs (X + 1) Y + atV W H zs X (Y + 1) + atV W H zs (X + 1) (Y + 1) + 2) = atV W H zs X Y + atV W H zs (X + 1) Y + atV W H zs X (Y + 1) + atV W H zs (X + 1) (Y + 1) + 2 := by rw [IntKind.wrap_i64]; omega
      have s5 : Int.tdiv (atV W H zs X Y + atV W H zs (X + 1) Y + atV W H zs X (Y + 1) + atV W H zs (X + 1) (Y + 1) + 2) 4 = (atV W H zs X Y + atV W H zs (X + 1) Y + atV W H zs X (Y + 1) + atV W H zs (X + 1) (Y + 1) + 2) / 4 := Int.tdiv_eq_ediv_of_nonneg (by omega)
      have s6 : IntKind.i64.wrap ((atV W H zs X Y + atV W H zs (X + 1) Y + atV W H zs X (Y + 1) + atV W H zs (X + 1) (Y + 1) + 2) / 4) = (atV W H zs X Y + atV W H zs (X + 1) Y + atV W H zs X (Y + 1) + atV W H zs (X + 1) (Y + 1) + 2) / 4 := by rw [IntKind.wrap_i64]; omega
      clear v0 v1 v2 v3 ox oy hm
      go_enter Tryd.func63, Tryd.ntmps63
      go_wp2_with fail
      refine (down_any _ (by omega) _).mono ?_; rintro e w1 ⟨rfl, rfl⟩
      go_wp2_with fail
      refine (down_any _ (by omega) _).mono ?_; rintro e w1 ⟨rfl, rfl⟩
      go_wp2_with fail
      revert F0 E0
      generalize w.alloc (.cells #[.int .i64 W, .int .i64 H, .slice a n cap] 67) = w0
      intro F0 E0
      have FB := Lib.hid F0
      clear F0
      refine (A.out _ _ _ (h.ext E0)).mono ?_; rintro e w2 ⟨rfl, hx2⟩
      have E2 := E0.trans hx2
      obtain ⟨p0, p1, p2⟩ := FB.out.ext hx2
      clear hx2 E0
      have HA := Lib.hid (h.ext E2)
      go_wp2_with fail
      go_region_held3 (fun w' => w'.cell? ⟨w.heap.size, 0, none⟩ = some (.int .i64 W) ∧ w'.cell? ⟨w.heap.size, 1, none⟩ = some (.int .i64 H) ∧ w'.cell? ⟨w.heap.size, 2, none⟩ = some (.slice a n cap) ∧ Ext w2 w')
        (first | assumption | (exact ⟨p0, p1, p2, Ext.refl _⟩) | (exact ⟨p0, p1, p2, (Ext.refl _).drew⟩) | (go_split_ands; exact ⟨hx.cell (by assumption), hx.cell (by assumption), hx.cell (by assumption), Ext.trans (by assumption) hx⟩))
        ((go_at_call 84; obtain ⟨_, _, _, hE1⟩ : _ ∧ _ ∧ _ ∧ Ext w2 _ := (by assumption); refine (A.out _ _ _ (HA.out.ext hE1)).mono ?_; rintro e w' ⟨rfl, hx⟩))
      all_goals obtain ⟨_, _, _, hE1⟩ : _ ∧ _ ∧ _ ∧ Ext w2 _ := by assumption
      all_goals go_wp2
      all_goals go_ret
      all_goals exact ⟨by rw [HR.out]; rfl, E2.trans hE1⟩
    · have bY : bits .and .i64 hy 1 = 0 := by rw [and1]; omega
      have HR : Hid (halfV W H zs hx hy = (atV W H zs X Y + atV W H zs (X + 1) Y + 1) / 2) := by show _ = _; unfold halfV; rw [if_pos ox, if_neg oy, hX, hY]
      clear ox oy hm v2 v3
      go_enter Tryd.func63, Tryd.ntmps63
      go_wp2_with fail
      refine (down_any _ (by omega) _).mono ?_; rintro e w1 ⟨rfl, rfl⟩
      go_wp2_with fail
      refine (down_any _ (by omega) _).mono ?_; rintro e w1 ⟨rfl, rfl⟩
      go_wp2_with fail
      revert F0 E0
      generalize w.alloc (.cells #[.int .i64 W, .int .i64 H, .slice a n cap] 67) = w0
      intro F0 E0
      have FB := Lib.hid F0
      clear F0
      refine (A.out _ _ _ (h.ext E0)).mono ?_; rintro e w2 ⟨rfl, hx2⟩
      have E2 := E0.trans hx2
      obtain ⟨p0, p1, p2⟩ := FB.out.ext hx2
      clear hx2 E0
      go_wp2_with fail
      refine (A.out _ _ _ (h.ext E2)).mono ?_; rintro e w3 ⟨rfl, hx3⟩
      go_wp2
      go_ret
      exact ⟨by rw [HR.out]; rfl, E2.trans hx3⟩
  · have bX : bits .and .i64 hx 1 = 0 := by rw [and1]; omega
    by_cases oy : hy % 2 = 1
    · have bY : bits .and .i64 hy 1 = 1 := by rw [and1]; exact oy
      have HR : Hid (halfV W H zs hx hy = (atV W H zs X Y + atV W H zs X (Y + 1) + 1) / 2) := by show _ = _; unfold halfV; rw [if_neg ox, if_pos oy, hX, hY]
      clear ox oy hm v1 v3
      go_enter Tryd.func63, Tryd.ntmps63
      go_wp2_with fail
      refine (down_any _ (by omega) _).mono ?_; rintro e w1 ⟨rfl, rfl⟩
      go_wp2_with fail
      refine (down_any _ (by omega) _).mono ?_; rintro e w1 ⟨rfl, rfl⟩
      go_wp2_with fail
      revert F0 E0
      generalize w.alloc (.cells #[.int .i64 W, .int .i64 H, .slice a n cap] 67) = w0
      intro F0 E0
      have FB := Lib.hid F0
      clear F0
      refine (A.out _ _ _ (h.ext E0)).mono ?_; rintro e w2 ⟨rfl, hx2⟩
      have E2 := E0.trans hx2
      obtain ⟨p0, p1, p2⟩ := FB.out.ext hx2
      clear hx2 E0
      go_wp2_with fail
      refine (A.out _ _ _ (h.ext E2)).mono ?_; rintro e w3 ⟨rfl, hx3⟩
      go_wp2
      go_ret
      exact ⟨by rw [HR.out]; rfl, E2.trans hx3⟩
    · have bY : bits .and .i64 hy 1 = 0 := by rw [and1]; omega
      have HR : Hid (halfV W H zs hx hy = atV W H zs X Y) := by show _ = _; unfold halfV; rw [if_neg ox, if_neg oy, hX, hY]
      clear ox oy hm v1 v2 v3
      go_enter Tryd.func63, Tryd.ntmps63
      go_wp2_with fail
      refine (down_any _ (by omega) _).mono ?_; rintro e w1 ⟨rfl, rfl⟩
      go_wp2_with fail
      refine (down_any _ (by omega) _).mono ?_; rintro e w1 ⟨rfl, rfl⟩
      go_wp2_with fail
      revert F0 E0
      generalize w.alloc (.cells #[.int .i64 W, .int .i64 H, .slice a n cap] 67) = w0
      intro F0 E0
      have FB := Lib.hid F0
      clear F0
      refine (A.out _ _ _ (h.ext E0)).mono ?_; rintro e w2 ⟨rfl, hx2⟩
      have E2 := E0.trans hx2
      obtain ⟨p0, p1, p2⟩ := FB.out.ext hx2
      clear hx2 E0
      go_wp2
      go_ret
      exact ⟨by rw [HR.out]; rfl, E2⟩
end Go.Proofs.YtaamnpbhmckpbaaDoor

/- motion.length, isFar, Half; square.IsVector; kinref11.may, Half: contracts over this seat's translation. -/
namespace Go.Proofs.YtaamnpbhmckpbaaDoor
set_option linter.unusedVariables false
set_option linter.unusedSimpArgs false
open Go.RowKit Go.Extern.Stop Go.Stop Go.Extern

/-- may a vector be -/
def vecB (vx vy : Int) : Bool := decide (-15 ≤ vx ∧ vx ≤ 15 ∧ -15 ≤ vy ∧ vy ≤ 15)
set_option maxRecDepth 20000 in
theorem vec_any (vx vy : Int) (w : World) : Calls Tryd.prog 64 #[.agg #[.int .i64 vx, .int .i64 vy]] w fun e w' => e = .returned (.bool (vecB vx vy)) ∧ Ext w w' := by
  by_cases h1 : -15 ≤ vx
  · by_cases h2 : vx ≤ 15
    · by_cases h3 : -15 ≤ vy
      · by_cases h4 : vy ≤ 15
        · have HR : Hid (vecB vx vy = true) := by show _ = _; unfold vecB; exact decide_eq_true ⟨h1, h2, h3, h4⟩
          go_enter Tryd.func64, Tryd.ntmps64
          go_wp2
          go_ret
          exact ⟨by rw [HR.out]; rfl, (by repeat (first | exact Ext.refl _ | assumption | refine Ext.alloc ?_ _ | refine Ext.drew ?_ | refine Ext.drewN ?_ _ | refine Ext.setCell ?_ (by first | exact Nat.le_refl _ | (simp; done) | omega) _ | refine Ext.trans ?_ (by assumption)))⟩
        · have HR : Hid (vecB vx vy = false) := by show _ = _; unfold vecB; exact decide_eq_false (by omega)
          go_enter Tryd.func64, Tryd.ntmps64
          go_wp2
          go_ret
          exact ⟨by rw [HR.out]; rfl, (by repeat (first | exact Ext.refl _ | assumption | refine Ext.alloc ?_ _ | refine Ext.drew ?_ | refine Ext.drewN ?_ _ | refine Ext.setCell ?_ (by first | exact Nat.le_refl _ | (simp; done) | omega) _ | refine Ext.trans ?_ (by assumption)))⟩
      · have HR : Hid (vecB vx vy = false) := by show _ = _; unfold vecB; exact decide_eq_false (by omega)
        go_enter Tryd.func64, Tryd.ntmps64
        go_wp2
        go_ret
        exact ⟨by rw [HR.out]; rfl, (by repeat (first | exact Ext.refl _ | assumption | refine Ext.alloc ?_ _ | refine Ext.drew ?_ | refine Ext.drewN ?_ _ | refine Ext.setCell ?_ (by first | exact Nat.le_refl _ | (simp; done) | omega) _ | refine Ext.trans ?_ (by assumption)))⟩
    · have HR : Hid (vecB vx vy = false) := by show _ = _; unfold vecB; exact decide_eq_false (by omega)
      go_enter Tryd.func64, Tryd.ntmps64
      go_wp2
      go_ret
      exact ⟨by rw [HR.out]; rfl, (by repeat (first | exact Ext.refl _ | assumption | refine Ext.alloc ?_ _ | refine Ext.drew ?_ | refine Ext.drewN ?_ _ | refine Ext.setCell ?_ (by first | exact Nat.le_refl _ | (simp; done) | omega) _ | refine Ext.trans ?_ (by assumption)))⟩
  · have HR : Hid (vecB vx vy = false) := by show _ = _; unfold vecB; exact decide_eq_false (by omega)
    go_enter Tryd.func64, Tryd.ntmps64
    go_wp2
    go_ret
    exact ⟨by rw [HR.out]; rfl, (by repeat (first | exact Ext.refl _ | assumption | refine Ext.alloc ?_ _ | refine Ext.drew ?_ | refine Ext.drewN ?_ _ | refine Ext.setCell ?_ (by first | exact Nat.le_refl _ | (simp; done) | omega) _ | refine Ext.trans ?_ (by assumption)))⟩
set_option maxRecDepth 20000 in
theorem rvec_any (vx vy : Int) (w : World) : Calls Tryd.prog 65 #[.agg #[.int .i64 vx, .int .i64 vy]] w fun e w' => e = .returned (.bool (vecB vx vy)) ∧ Ext w w' := by
  by_cases h1 : -15 ≤ vx
  · by_cases h2 : vx ≤ 15
    · by_cases h3 : -15 ≤ vy
      · by_cases h4 : vy ≤ 15
        · have HR : Hid (vecB vx vy = true) := by show _ = _; unfold vecB; exact decide_eq_true ⟨h1, h2, h3, h4⟩
          go_enter Tryd.func65, Tryd.ntmps65
          go_wp2
          go_ret
          exact ⟨by rw [HR.out]; rfl, (by repeat (first | exact Ext.refl _ | assumption | refine Ext.alloc ?_ _ | refine Ext.drew ?_ | refine Ext.drewN ?_ _ | refine Ext.setCell ?_ (by first | exact Nat.le_refl _ | (simp; done) | omega) _ | refine Ext.trans ?_ (by assumption)))⟩
        · have HR : Hid (vecB vx vy = false) := by show _ = _; unfold vecB; exact decide_eq_false (by omega)
          go_enter Tryd.func65, Tryd.ntmps65
          go_wp2
          go_ret
          exact ⟨by rw [HR.out]; rfl, (by repeat (first | exact Ext.refl _ | assumption | refine Ext.alloc ?_ _ | refine Ext.drew ?_ | refine Ext.drewN ?_ _ | refine Ext.setCell ?_ (by first | exact Nat.le_refl _ | (simp; done) | omega) _ | refine Ext.trans ?_ (by assumption)))⟩
      · have HR : Hid (vecB vx vy = false) := by show _ = _; unfold vecB; exact decide_eq_false (by omega)
        go_enter Tryd.func65, Tryd.ntmps65
        go_wp2
        go_ret
        exact ⟨by rw [HR.out]; rfl, (by repeat (first | exact Ext.refl _ | assumption | refine Ext.alloc ?_ _ | refine Ext.drew ?_ | refine Ext.drewN ?_ _ | refine Ext.setCell ?_ (by first | exact Nat.le_refl _ | (simp; done) | omega) _ | refine Ext.trans ?_ (by assumption)))⟩
    · have HR : Hid (vecB vx vy = false) := by show _ = _; unfold vecB; exact decide_eq_false (by omega)
      go_enter Tryd.func65, Tryd.ntmps65
      go_wp2
      go_ret
      exact ⟨by rw [HR.out]; rfl, (by repeat (first | exact Ext.refl _ | assumption | refine Ext.alloc ?_ _ | refine Ext.drew ?_ | refine Ext.drewN ?_ _ | refine Ext.setCell ?_ (by first | exact Nat.le_refl _ | (simp; done) | omega) _ | refine Ext.trans ?_ (by assumption)))⟩
  · have HR : Hid (vecB vx vy = false) := by show _ = _; unfold vecB; exact decide_eq_false (by omega)
    go_enter Tryd.func65, Tryd.ntmps65
    go_wp2
    go_ret
    exact ⟨by rw [HR.out]; rfl, (by repeat (first | exact Ext.refl _ | assumption | refine Ext.alloc ?_ _ | refine Ext.drew ?_ | refine Ext.drewN ?_ _ | refine Ext.setCell ?_ (by first | exact Nat.le_refl _ | (simp; done) | omega) _ | refine Ext.trans ?_ (by assumption)))⟩
theorem vecB_true {vx vy : Int} (h : vecB vx vy = true) : -15 ≤ vx ∧ vx ≤ 15 ∧ -15 ≤ vy ∧ vy ≤ 15 := of_decide_eq_true h
/-- what a vector itself costs -/
def lenV (vx vy : Int) : Int := max vx (-vx) + max vy (-vy)
theorem len_any (vx vy : Int) (w : World) (hx : -1000000 ≤ vx ∧ vx ≤ 1000000) (hy : -1000000 ≤ vy ∧ vy ≤ 1000000) : Calls Tryd.prog 67 #[.agg #[.int .i64 vx, .int .i64 vy]] w fun e w' => e = .returned (.int .i64 (lenV vx vy)) ∧ Ext w w' := by
  have r1 := mx2
  have HR : Hid (lenV vx vy = max vx (-vx) + max vy (-vy)) := rfl
  have e1 : IntKind.i64.wrap (-vx) = -vx := by rw [IntKind.wrap_i64]; omega
  have e2 : IntKind.i64.wrap (-vy) = -vy := by rw [IntKind.wrap_i64]; omega
  have e3 : IntKind.i64.wrap (max vx (-vx) + max vy (-vy)) = max vx (-vx) + max vy (-vy) := by rw [IntKind.wrap_i64]; omega
  go_enter Tryd.func67, Tryd.ntmps67
  go_wp2
  go_ret
  exact ⟨by rw [HR.out]; rfl, (by repeat (first | exact Ext.refl _ | assumption | refine Ext.alloc ?_ _ | refine Ext.drew ?_ | refine Ext.drewN ?_ _ | refine Ext.setCell ?_ (by first | exact Nat.le_refl _ | (simp; done) | omega) _ | refine Ext.trans ?_ (by assumption)))⟩
/-- is a half place too far away -/
def hfarB (x : Int) : Bool := decide (x < -65536) || decide (65536 < x)
theorem hfar_any (x : Int) (w : World) : Calls Tryd.prog 61 #[.int .i64 x] w fun e w' => e = .returned (.bool (hfarB x)) ∧ w = w' := by
  by_cases h1 : x < -65536
  · have H : Hid (hfarB x = true) := by show _ = _; unfold hfarB; simp [h1]
    go_enter Tryd.func61, Tryd.ntmps61
    go_wp2
    go_ret
    exact ⟨by rw [H.out]; rfl, rfl⟩
  · by_cases h2 : 65536 < x
    · have H : Hid (hfarB x = true) := by show _ = _; unfold hfarB; simp [h2]
      go_enter Tryd.func61, Tryd.ntmps61
      go_wp2
      go_ret
      exact ⟨by rw [H.out]; rfl, rfl⟩
    · have H : Hid (hfarB x = false) := by show _ = _; unfold hfarB; simp [h1, h2]
      go_enter Tryd.func61, Tryd.ntmps61
      go_wp2
      go_ret
      exact ⟨by rw [H.out]; rfl, rfl⟩
theorem hfarB_no {x : Int} (h : hfarB x = false) : -65536 ≤ x ∧ x ≤ 65536 := by
  unfold hfarB at h
  simp at h
  omega
def halfA (W H : Int) (zs : List Int) (hx hy : Int) : Int := if may W H zs ∧ hfarB hx = false ∧ hfarB hy = false then halfV W H zs hx hy else 0
set_option maxRecDepth 20000 in
set_option maxHeartbeats 2000000 in
theorem Half_any (W H hx hy : Int) (zs : List Int) (a : Option Addr) (n cap : Nat) (w : World) (h : Ints w (.slice a n cap) zs) :
    Calls Tryd.prog 39 #[.agg #[.int .i64 W, .int .i64 H, .slice a n cap], .int .i64 hx, .int .i64 hy] w fun e w' => e = .returned (.int .i64 (halfA W H zs hx hy)) ∧ Ext w w' := by
  have M1 := Lib.hid (fun w h => may_any W H zs a n cap w h)
  by_cases h1 : may W H zs
  · have H1 := Lib.hid h1
    cases h2 : hfarB hx with
    | true =>
      have HR : Hid (halfA W H zs hx hy = 0) := by show _ = _; unfold halfA; rw [if_neg (fun e => by rw [h2] at e; cases e.2.1)]
      clear h1
      go_enter Tryd.func39, Tryd.ntmps39
      go_wp2_with fail
      refine (M1.out _ (h.ext (by repeat (first | exact Ext.refl _ | assumption | refine Ext.alloc ?_ _ | refine Ext.drew ?_ | refine Ext.drewN ?_ _ | refine Ext.setCell ?_ (by first | exact Nat.le_refl _ | (simp; done) | omega) _ | refine Ext.trans ?_ (by assumption))))).mono ?_; rintro e w2 ⟨rfl, hx2⟩
      rw [decide_eq_true H1.out]
      go_wp2_with fail
      refine (hfar_any _ _).mono ?_; rintro e w3 ⟨rfl, rfl⟩
      rw [h2]
      go_wp2
      go_ret
      exact ⟨by rw [HR.out]; rfl, (by repeat (first | exact Ext.refl _ | assumption | refine Ext.alloc ?_ _ | refine Ext.drew ?_ | refine Ext.drewN ?_ _ | refine Ext.setCell ?_ (by first | exact Nat.le_refl _ | (simp; done) | omega) _ | refine Ext.trans ?_ (by assumption)))⟩
    | false =>
      cases h3 : hfarB hy with
      | true =>
        have HR : Hid (halfA W H zs hx hy = 0) := by show _ = _; unfold halfA; rw [if_neg (fun e => by rw [h3] at e; cases e.2.2)]
        clear h1
        go_enter Tryd.func39, Tryd.ntmps39
        go_wp2_with fail
        refine (M1.out _ (h.ext (by repeat (first | exact Ext.refl _ | assumption | refine Ext.alloc ?_ _ | refine Ext.drew ?_ | refine Ext.drewN ?_ _ | refine Ext.setCell ?_ (by first | exact Nat.le_refl _ | (simp; done) | omega) _ | refine Ext.trans ?_ (by assumption))))).mono ?_; rintro e w2 ⟨rfl, hx2⟩
        rw [decide_eq_true H1.out]
        go_wp2_with fail
        refine (hfar_any _ _).mono ?_; rintro e w3 ⟨rfl, rfl⟩
        rw [h2]
        go_wp2_with fail
        refine (hfar_any _ _).mono ?_; rintro e w3 ⟨rfl, rfl⟩
        rw [h3]
        go_wp2
        go_ret
        exact ⟨by rw [HR.out]; rfl, (by repeat (first | exact Ext.refl _ | assumption | refine Ext.alloc ?_ _ | refine Ext.drew ?_ | refine Ext.drewN ?_ _ | refine Ext.setCell ?_ (by first | exact Nat.le_refl _ | (simp; done) | omega) _ | refine Ext.trans ?_ (by assumption)))⟩
      | false =>
        have HR : Hid (halfA W H zs hx hy = halfV W H zs hx hy) := by show _ = _; unfold halfA; rw [if_pos ⟨h1, h2, h3⟩]
        have bx := hfarB_no h2
        have by' := hfarB_no h3
        have U := Lib.hid (fun w h => mhalf_any W H hx hy zs a n cap w h h1 (by omega) (by omega))
        clear h1
        have F0 := FrBox.new w W H (.slice a n cap)
        go_enter Tryd.func39, Tryd.ntmps39
        go_wp2_with fail
        refine (M1.out _ (h.ext (by repeat (first | exact Ext.refl _ | assumption | refine Ext.alloc ?_ _ | refine Ext.drew ?_ | refine Ext.drewN ?_ _ | refine Ext.setCell ?_ (by first | exact Nat.le_refl _ | (simp; done) | omega) _ | refine Ext.trans ?_ (by assumption))))).mono ?_; rintro e w2 ⟨rfl, hx2⟩
        rw [decide_eq_true H1.out]
        obtain ⟨p0, p1, p2⟩ := F0.ext hx2
        have E2 : Ext w w2 := (by repeat (first | exact Ext.refl _ | assumption | refine Ext.alloc ?_ _ | refine Ext.drew ?_ | refine Ext.drewN ?_ _ | refine Ext.setCell ?_ (by first | exact Nat.le_refl _ | (simp; done) | omega) _ | refine Ext.trans ?_ (by assumption)))
        clear hx2 F0
        go_wp2_with fail
        refine (hfar_any _ _).mono ?_; rintro e w3 ⟨rfl, rfl⟩
        rw [h2]
        go_wp2_with fail
        refine (hfar_any _ _).mono ?_; rintro e w3 ⟨rfl, rfl⟩
        rw [h3]
        go_wp2_with fail
        refine (U.out _ (h.ext E2)).mono ?_; rintro e w4 ⟨rfl, hx4⟩
        go_wp2
        go_ret
        exact ⟨by rw [HR.out]; rfl, E2.trans hx4⟩
  · have HR : Hid (halfA W H zs hx hy = 0) := by show _ = _; unfold halfA; rw [if_neg (fun e => h1 e.1)]
    have H1 := Lib.hid h1
    clear h1
    go_enter Tryd.func39, Tryd.ntmps39
    go_wp2_with fail
    refine (M1.out _ (h.ext (by repeat (first | exact Ext.refl _ | assumption | refine Ext.alloc ?_ _ | refine Ext.drew ?_ | refine Ext.drewN ?_ _ | refine Ext.setCell ?_ (by first | exact Nat.le_refl _ | (simp; done) | omega) _ | refine Ext.trans ?_ (by assumption))))).mono ?_; rintro e w2 ⟨rfl, hx2⟩
    rw [decide_eq_false H1.out]
    go_wp2
    go_ret
    exact ⟨by rw [HR.out]; rfl, (by repeat (first | exact Ext.refl _ | assumption | refine Ext.alloc ?_ _ | refine Ext.drew ?_ | refine Ext.drewN ?_ _ | refine Ext.setCell ?_ (by first | exact Nat.le_refl _ | (simp; done) | omega) _ | refine Ext.trans ?_ (by assumption)))⟩
end Go.Proofs.YtaamnpbhmckpbaaDoor

/- An append of one int, and what it leaves of blocks of other types. -/
namespace Go.Proofs.YtaamnpbhmckpbaaDoor
set_option linter.unusedVariables false
set_option linter.unusedSimpArgs false
open Go.RowKit Go.Extern.Stop Go.Stop Go.Extern

theorem push_grow {ops : Array Oper} {rest : List Oper} {o : Oper} {a : Act} {Q : Exit → Act → World → Prop} {W : World} {base : Nat} (hgd : o.guard = none) (s y : Operand) (t : TypeId)
    (ho : o.op = .call { callee := .builtin .append, args := #[s, y], argTypes := #[t, t] }) (ht : Tryd.prog.underlying t = some (.slice 3))
    (v : Value) (n : Nat) (xs : List Value) (x : Int) (hs : a.eval s = v) (hown : W.ownsRow base 3 1 v n xs) (hx : a.eval y = .slice (some ⟨W.heap.size, 0, none⟩) 1 1) (hb : base ≤ W.heap.size) (hn : n ≤ 1000000000000)
    (h : ∀ v' w', w'.ownsRow base 3 1 v' (n + 1) (xs ++ [.int .i64 x]) → Below base W w' → W.grownBy w' v.ownBlock → wpList Tryd.prog ops Q rest (a.put o.dst v') w') :
    wpList Tryd.prog ops Q (o :: rest) a (W.alloc (.cells #[.int .i64 x] 3)) := by
  obtain ⟨i0, hi, hz0, hz1, hz2⟩ := info_parts infoInt
  refine wpList_append_own _ hgd s y t ho base 3 i0 (.int .i64 0) 1 8 ht hi hz0 hz1 hz2 rfl (by decide) v n xs hs (hown.alloc _) ⟨W.heap.size, 0, none⟩ 1 1 [.int .i64 x] hx rfl (cell_one_new _ _ _) (one_int _) (by unfold maxLen; omega) (by omega) (by simp; omega) ?_
  intro v' w' h1 h2 _
  refine h v' w' h1 (Below.grown ((Below.refl base W).alloc hb _) h2 (by simp; omega) (fun k hk => (hown.lt k hk).1)) ?_
  have g := World.grownBy_alloc W (.cells #[.int .i64 x] 3) v.ownBlock
  exact ⟨h2.os.trans g.os, h2.tape.trans g.tape, h2.output.trans g.output, Nat.le_trans g.size h2.size, fun k hk hne => (h2.block k (Nat.lt_of_lt_of_le hk g.size) hne).trans (g.block k hk hne)⟩
/-- a block known whole -/
def BoxIs (w : World) (b : Nat) (cs : Array Value) (T : TypeId) : Prop := w.heap[b]? = some (.cells cs T (0, 0))
theorem BoxIs.new (w : World) (cs : Array Value) (T : TypeId) : BoxIs (w.alloc (.cells cs T)) w.heap.size cs T := heap_alloc_new w _
theorem BoxIs.lt {w : World} {b : Nat} {cs : Array Value} {T : TypeId} (h : BoxIs w b cs T) : b < w.heap.size := (Array.getElem?_eq_some_iff.1 h).1
theorem BoxIs.ext {w w' : World} {b : Nat} {cs : Array Value} {T : TypeId} (h : BoxIs w b cs T) (k : Ext w w') : BoxIs w' b cs T := (k.block h.lt).trans h
theorem BoxIs.cell {w : World} {b i : Nat} {cs : Array Value} {T : TypeId} {v : Value} (h : BoxIs w b cs T) (hi : cs[i]? = some v) : w.cell? ⟨b, i, none⟩ = some v := by
  unfold BoxIs at h
  simp [World.cell?, h, hi]
theorem BoxIs.free {w : World} {b i : Nat} {cs : Array Value} {T : TypeId} (h : BoxIs w b cs T) : w.frozen? ⟨b, i, none⟩ = false := by
  unfold BoxIs at h
  simp [World.frozen?, h]
theorem BoxIs.apart {w : World} {b : Nat} {cs : Array Value} {T : TypeId} (h : BoxIs w b cs T) {base : Nat} {e : TypeId} {size : Nat} {v : Value} {n : Nat} {xs : List Value} (k : w.ownsRow base e size v n xs) (hT : T ≠ e) : some b ≠ v.ownBlock := by
  intro hb
  rcases k.2 with ⟨rfl, -⟩ | ⟨g, cap, cur, rfl, -, hg, -⟩
  · simp [Value.ownBlock] at hb
  · simp only [Value.ownBlock, Option.some.injEq] at hb
    subst hb
    unfold BoxIs at h
    rw [h] at hg
    simp only [Option.some.injEq, Obj.cells.injEq] at hg
    exact hT hg.2.1
theorem BoxIs.grown {w w' : World} {b : Nat} {cs : Array Value} {T : TypeId} (h : BoxIs w b cs T) {base : Nat} {e : TypeId} {size : Nat} {v : Value} {n : Nat} {xs : List Value} (k : w.ownsRow base e size v n xs) (hT : T ≠ e) (hg : w.grownBy w' v.ownBlock) : BoxIs w' b cs T :=
  (hg.block b h.lt (h.apart k hT)).trans h
end Go.Proofs.YtaamnpbhmckpbaaDoor

/- motion.Block, kinref11.Block where they give a square: contracts over this seat's translation. -/
namespace Go.Proofs.YtaamnpbhmckpbaaDoor
set_option linter.unusedVariables false
set_option linter.unusedSimpArgs false
open Go.RowKit Go.Extern.Stop Go.Stop Go.Extern

/-- a square moved by a vector -/
def mvF (W H : Int) (zs : List Int) (x y vx vy : Int) (N k : Nat) : Int := halfV W H zs (2 * (x + ((k % N : Nat) : Int)) + vx) (2 * (y + ((k / N : Nat) : Int)) + vy)
theorem mv_at {N i : Nat} (W H : Int) (zs : List Int) (x y vx vy : Int) (j : Nat) (hi : i < N) : mvF W H zs x y vx vy N (j * N + i) = halfV W H zs (2 * (x + (i : Int)) + vx) (2 * (y + (j : Int)) + vy) := by
  have h1 : (j * N + i) % N = i := by rw [Nat.add_comm, Nat.add_mul_mod_self_right, Nat.mod_eq_of_lt hi]
  have h2 : (j * N + i) / N = j := by rw [Nat.add_comm, Nat.add_mul_div_right _ _ (by omega), Nat.div_eq_of_lt hi, Nat.zero_add]
  unfold mvF
  rw [h1, h2]
/-- a vector's two cells -/
def VcBox (w : World) (b : Nat) (vx vy : Int) : Prop := w.cell? ⟨b, 0, none⟩ = some (.int .i64 vx) ∧ w.cell? ⟨b, 1, none⟩ = some (.int .i64 vy)
theorem VcBox.ext {w w' : World} {b : Nat} {vx vy : Int} (h : VcBox w b vx vy) (k : Ext w w') : VcBox w' b vx vy := ⟨k.cell h.1, k.cell h.2⟩
theorem FrBox.vec (w : World) (W H vx vy : Int) (u : Value) :
    FrBox ((w.alloc (.cells #[.int .i64 W, .int .i64 H, u] 67)).alloc (.cells #[.int .i64 vx, .int .i64 vy] 69)) w.heap.size W H u ∧
    VcBox ((w.alloc (.cells #[.int .i64 W, .int .i64 H, u] 67)).alloc (.cells #[.int .i64 vx, .int .i64 vy] 69)) (w.heap.size + 1) vx vy :=
  ⟨⟨by simp, by simp, by simp⟩, by simp, by simp⟩
set_option maxHeartbeats 4000000 in
set_option maxRecDepth 20000 in
theorem mblock_4 (W H x y vx vy : Int) (zs : List Int) (a : Option Addr) (n cap : Nat) (w : World) (h : Ints w (.slice a n cap) zs) (hm : may W H zs) (hv : vecB vx vy = true) (hx : 0 ≤ x ∧ x ≤ 32) (hy : 0 ≤ y ∧ y ≤ 32) :
    Calls Tryd.prog 42 #[.agg #[.int .i64 W, .int .i64 H, .slice a n cap], .int .i64 x, .int .i64 y, .int .i64 4, .agg #[.int .i64 vx, .int .i64 vy]] w fun e w' => ∃ u, e = .returned u ∧ Ext w w' ∧ Ints w' u (rowL 16 (mvF W H zs x y vx vy 4)) := by
  obtain ⟨i0, hi, hz0, hz1, hz2⟩ := info_parts infoInt
  have B1 := Lib.hid (fun w => vec_any vx vy w)
  have M1 := Lib.hid (fun w h => may_any W H zs a n cap w h)
  have A1 := Lib.hid (fun (w : World) (x y : Int) (h : Ints w (.slice a n cap) zs) b1 b2 => mhalf_any W H x y zs a n cap w h hm b1 b2)
  have H1 := Lib.hid hm
  have V1 := Lib.hid hv
  obtain ⟨v1, v2, v3, v4⟩ := vecB_true hv
  obtain ⟨hx1, hx2⟩ := hx
  obtain ⟨hy1, hy2⟩ := hy
  obtain ⟨F0, G0⟩ := FrBox.vec w W H vx vy (.slice a n cap)
  have E0 : Ext w ((w.alloc (.cells #[.int .i64 W, .int .i64 H, .slice a n cap] 67)).alloc (.cells #[.int .i64 vx, .int .i64 vy] 69)) := (by repeat (first | exact Ext.refl _ | assumption | refine Ext.alloc ?_ _ | refine Ext.drew ?_ | refine Ext.drewN ?_ _ | refine Ext.setCell ?_ (by first | exact Nat.le_refl _ | (simp; done) | omega) _ | refine Ext.trans ?_ (by assumption)))
  clear hm hv
  go_enter Tryd.func42, Tryd.ntmps42
  go_wp2_with fail
  revert F0 G0 E0
  generalize (w.alloc (.cells #[.int .i64 W, .int .i64 H, .slice a n cap] 67)).alloc (.cells #[.int .i64 vx, .int .i64 vy] 69) = w0
  intro F0 G0 E0
  have FB := Lib.hid F0
  have GB := Lib.hid G0
  clear F0 G0
  refine (M1.out _ (h.ext E0)).mono ?_; rintro e w1 ⟨rfl, hx1'⟩
  rw [decide_eq_true H1.out]
  obtain ⟨q0, q1⟩ := GB.out.ext hx1'
  go_wp2_with fail
  refine (B1.out _).mono ?_; rintro e w2 ⟨rfl, hx2'⟩
  rw [V1.out]
  have FC := Lib.hid (FB.out.ext (hx1'.trans hx2'))
  have GC := Lib.hid (GB.out.ext (hx1'.trans hx2'))
  have E1 := (E0.trans hx1').trans hx2'
  clear hx1' hx2' q0 q1 FB GB E0
  go_wp2_with (at_make; refine wpList_make_own _ rfl _ _ 65 rfl w2.heap.size 3 i0 (.int .i64 0) 1 Tryd.underlying65 hi hz0 hz1 .i64 .i64 _ 16 rfl rfl rfl (by rw [hz2]; omega) (by unfold maxLen; omega) (Nat.le_refl _) ?_; intro w3 hown hgrow)
  have hE2 : Ext w2 w3 := Below.grown (Below.refl _ _) hgrow (Nat.le_refl _) (fun k hk => by cases hk)
  clear hgrow hi hz0 hz1 hz2
  go_loopw [11, 51] (fun bv jv wr => ∃ j : Nat, j ≤ 4 ∧ jv = .int .i64 j ∧ Hid (wr.ownsRow w2.heap.size 3 1 bv (j * 4) ((rowL (j * 4) (mvF W H zs x y vx vy 4)).map (Value.int .i64))) ∧ Ext w2 wr) (fun _ jv _ => 4 - (intOf jv).toNat)
  case atStart => exact ⟨0, Nat.zero_le _, rfl, by show World.ownsRow _ _ _ _ _ _ _; rw [Nat.zero_mul]; exact hown, hE2⟩
  case round =>
    clear hown hE2
    obtain ⟨j, hj, rfl, HO, hE⟩ := hrel
    by_cases hlt : j < 4
    · have t1 : decide ((j : Int) < 4) = true := decide_eq_true (by omega)
      have t2 : (j : Int) < 4 := by omega
      go_wp2_with fail
      go_loopw [11, 55] (fun bv iv wr => ∃ i : Nat, i ≤ 4 ∧ iv = .int .i64 i ∧ Hid (wr.ownsRow w2.heap.size 3 1 bv (j * 4 + i) ((rowL (j * 4 + i) (mvF W H zs x y vx vy 4)).map (Value.int .i64))) ∧ Ext w2 wr) (fun _ iv _ => 4 - (intOf iv).toNat)
      case atStart => exact ⟨0, Nat.zero_le _, rfl, by simpa using HO, hE⟩
      case round =>
        clear HO hE
        obtain ⟨i, hi, rfl, HO, hE⟩ := hrel
        obtain ⟨p0, p1, p2⟩ := FC.out.ext hE
        obtain ⟨q0, q1⟩ := GC.out.ext hE
        by_cases hit : i < 4
        · have d1 : IntKind.i64.wrap (x + (i : Int)) = x + (i : Int) := by rw [IntKind.wrap_i64]; omega
          have d2 : IntKind.i64.wrap (y + (j : Int)) = y + (j : Int) := by rw [IntKind.wrap_i64]; omega
          have d3 : IntKind.i64.wrap (2 * (x + (i : Int))) = 2 * (x + (i : Int)) := by rw [IntKind.wrap_i64]; omega
          have d4 : IntKind.i64.wrap (2 * (y + (j : Int))) = 2 * (y + (j : Int)) := by rw [IntKind.wrap_i64]; omega
          have d5 : IntKind.i64.wrap (2 * (x + (i : Int)) + vx) = 2 * (x + (i : Int)) + vx := by rw [IntKind.wrap_i64]; omega
          have d6 : IntKind.i64.wrap (2 * (y + (j : Int)) + vy) = 2 * (y + (j : Int)) + vy := by rw [IntKind.wrap_i64]; omega
          have HS := Lib.hid (mv_at W H zs x y vx vy j hit)
          go_wp2_with fail
          refine (A1.out _ _ _ (h.ext (E1.trans hE)) (by omega) (by omega)).mono ?_; rintro e w5 ⟨rfl, hx5⟩
          have HO5 := Lib.hid (own_ext HO.out hx5)
          have E5 : Ext w2 w5 := hE.trans hx5
          have B5 := E5.size
          clear HO hE hx5 p0 p1 p2 q0 q1
          go_wp2_with (at_builtin; refine push_int rfl _ _ 65 rfl Tryd.underlying65 _ _ _ _ rfl HO5.out (by show Value.slice (some ⟨w5.heap.size, 0, none⟩) 1 1 = _; simp) B5 (by omega) ?_; intro v' w7 h1 h2)
          have E7 : Ext w2 w7 := E5.of_below h2 (Nat.le_refl _)
          have HO7 := Lib.hid h1
          clear h1 h2
          have HN : Hid (w7.ownsRow w2.heap.size 3 1 v' (j * 4 + (i + 1)) ((rowL (j * 4 + (i + 1)) (mvF W H zs x y vx vy 4)).map (Value.int .i64))) := by
            show World.ownsRow _ _ _ _ _ _ _
            rw [← Nat.add_assoc, rowL_sn, HS.out]
            exact HO7.out
          go_roundw
          case rel => first | exact ⟨i + 1, by omega, by go_num, HN.out, E7⟩ | ((repeat apply Exists.intro); exact ⟨⟨i + 1, by omega, by go_num, HN.out, E7⟩, rfl⟩)
          case measure => simp [intOf]; omega
        · obtain rfl : i = 4 := by omega
          go_wp2
          go_roundw
          case rel => first | exact ⟨j + 1, by omega, by go_num, by rw [Nat.succ_mul]; exact HO.out, hE⟩ | ((repeat apply Exists.intro); exact ⟨⟨j + 1, by omega, by go_num, by rw [Nat.succ_mul]; exact HO.out, hE⟩, rfl⟩)
          case measure => simp [intOf]; omega
    · obtain rfl : j = 4 := by omega
      go_wp2
      go_ret
      exact ⟨_, rfl, E1.trans hE, Ints.of_row HO.out (by omega)⟩
set_option maxHeartbeats 4000000 in
set_option maxRecDepth 20000 in
theorem mblock_8 (W H x y vx vy : Int) (zs : List Int) (a : Option Addr) (n cap : Nat) (w : World) (h : Ints w (.slice a n cap) zs) (hm : may W H zs) (hv : vecB vx vy = true) (hx : 0 ≤ x ∧ x ≤ 32) (hy : 0 ≤ y ∧ y ≤ 32) :
    Calls Tryd.prog 42 #[.agg #[.int .i64 W, .int .i64 H, .slice a n cap], .int .i64 x, .int .i64 y, .int .i64 8, .agg #[.int .i64 vx, .int .i64 vy]] w fun e w' => ∃ u, e = .returned u ∧ Ext w w' ∧ Ints w' u (rowL 64 (mvF W H zs x y vx vy 8)) := by
  obtain ⟨i0, hi, hz0, hz1, hz2⟩ := info_parts infoInt
  have B1 := Lib.hid (fun w => vec_any vx vy w)
  have M1 := Lib.hid (fun w h => may_any W H zs a n cap w h)
  have A1 := Lib.hid (fun (w : World) (x y : Int) (h : Ints w (.slice a n cap) zs) b1 b2 => mhalf_any W H x y zs a n cap w h hm b1 b2)
  have H1 := Lib.hid hm
  have V1 := Lib.hid hv
  obtain ⟨v1, v2, v3, v4⟩ := vecB_true hv
  obtain ⟨hx1, hx2⟩ := hx
  obtain ⟨hy1, hy2⟩ := hy
  obtain ⟨F0, G0⟩ := FrBox.vec w W H vx vy (.slice a n cap)
  have E0 : Ext w ((w.alloc (.cells #[.int .i64 W, .int .i64 H, .slice a n cap] 67)).alloc (.cells #[.int .i64 vx, .int .i64 vy] 69)) := (by repeat (first | exact Ext.refl _ | assumption | refine Ext.alloc ?_ _ | refine Ext.drew ?_ | refine Ext.drewN ?_ _ | refine Ext.setCell ?_ (by first | exact Nat.le_refl _ | (simp; done) | omega) _ | refine Ext.trans ?_ (by assumption)))
  clear hm hv
  go_enter Tryd.func42, Tryd.ntmps42
  go_wp2_with fail
  revert F0 G0 E0
  generalize (w.alloc (.cells #[.int .i64 W, .int .i64 H, .slice a n cap] 67)).alloc (.cells #[.int .i64 vx, .int .i64 vy] 69) = w0
  intro F0 G0 E0
  have FB := Lib.hid F0
  have GB := Lib.hid G0
  clear F0 G0
  refine (M1.out _ (h.ext E0)).mono ?_; rintro e w1 ⟨rfl, hx1'⟩
  rw [decide_eq_true H1.out]
  obtain ⟨q0, q1⟩ := GB.out.ext hx1'
  go_wp2_with fail
  refine (B1.out _).mono ?_; rintro e w2 ⟨rfl, hx2'⟩
  rw [V1.out]
  have FC := Lib.hid (FB.out.ext (hx1'.trans hx2'))
  have GC := Lib.hid (GB.out.ext (hx1'.trans hx2'))
  have E1 := (E0.trans hx1').trans hx2'
  clear hx1' hx2' q0 q1 FB GB E0
  go_wp2_with (at_make; refine wpList_make_own _ rfl _ _ 65 rfl w2.heap.size 3 i0 (.int .i64 0) 1 Tryd.underlying65 hi hz0 hz1 .i64 .i64 _ 64 rfl rfl rfl (by rw [hz2]; omega) (by unfold maxLen; omega) (Nat.le_refl _) ?_; intro w3 hown hgrow)
  have hE2 : Ext w2 w3 := Below.grown (Below.refl _ _) hgrow (Nat.le_refl _) (fun k hk => by cases hk)
  clear hgrow hi hz0 hz1 hz2
  go_loopw [11, 51] (fun bv jv wr => ∃ j : Nat, j ≤ 8 ∧ jv = .int .i64 j ∧ Hid (wr.ownsRow w2.heap.size 3 1 bv (j * 8) ((rowL (j * 8) (mvF W H zs x y vx vy 8)).map (Value.int .i64))) ∧ Ext w2 wr) (fun _ jv _ => 8 - (intOf jv).toNat)
  case atStart => exact ⟨0, Nat.zero_le _, rfl, by show World.ownsRow _ _ _ _ _ _ _; rw [Nat.zero_mul]; exact hown, hE2⟩
  case round =>
    clear hown hE2
    obtain ⟨j, hj, rfl, HO, hE⟩ := hrel
    by_cases hlt : j < 8
    · have t1 : decide ((j : Int) < 8) = true := decide_eq_true (by omega)
      have t2 : (j : Int) < 8 := by omega
      go_wp2_with fail
      go_loopw [11, 55] (fun bv iv wr => ∃ i : Nat, i ≤ 8 ∧ iv = .int .i64 i ∧ Hid (wr.ownsRow w2.heap.size 3 1 bv (j * 8 + i) ((rowL (j * 8 + i) (mvF W H zs x y vx vy 8)).map (Value.int .i64))) ∧ Ext w2 wr) (fun _ iv _ => 8 - (intOf iv).toNat)
      case atStart => exact ⟨0, Nat.zero_le _, rfl, by simpa using HO, hE⟩
      case round =>
        clear HO hE
        obtain ⟨i, hi, rfl, HO, hE⟩ := hrel
        obtain ⟨p0, p1, p2⟩ := FC.out.ext hE
        obtain ⟨q0, q1⟩ := GC.out.ext hE
        by_cases hit : i < 8
        · have d1 : IntKind.i64.wrap (x + (i : Int)) = x + (i : Int) := by rw [IntKind.wrap_i64]; omega
          have d2 : IntKind.i64.wrap (y + (j : Int)) = y + (j : Int) := by rw [IntKind.wrap_i64]; omega
          have d3 : IntKind.i64.wrap (2 * (x + (i : Int))) = 2 * (x + (i : Int)) := by rw [IntKind.wrap_i64]; omega
          have d4 : IntKind.i64.wrap (2 * (y + (j : Int))) = 2 * (y + (j : Int)) := by rw [IntKind.wrap_i64]; omega
          have d5 : IntKind.i64.wrap (2 * (x + (i : Int)) + vx) = 2 * (x + (i : Int)) + vx := by rw [IntKind.wrap_i64]; omega
          have d6 : IntKind.i64.wrap (2 * (y + (j : Int)) + vy) = 2 * (y + (j : Int)) + vy := by rw [IntKind.wrap_i64]; omega
          have HS := Lib.hid (mv_at W H zs x y vx vy j hit)
          go_wp2_with fail
          refine (A1.out _ _ _ (h.ext (E1.trans hE)) (by omega) (by omega)).mono ?_; rintro e w5 ⟨rfl, hx5⟩
          have HO5 := Lib.hid (own_ext HO.out hx5)
          have E5 : Ext w2 w5 := hE.trans hx5
          have B5 := E5.size
          clear HO hE hx5 p0 p1 p2 q0 q1
          go_wp2_with (at_builtin; refine push_int rfl _ _ 65 rfl Tryd.underlying65 _ _ _ _ rfl HO5.out (by show Value.slice (some ⟨w5.heap.size, 0, none⟩) 1 1 = _; simp) B5 (by omega) ?_; intro v' w7 h1 h2)
          have E7 : Ext w2 w7 := E5.of_below h2 (Nat.le_refl _)
          have HO7 := Lib.hid h1
          clear h1 h2
          have HN : Hid (w7.ownsRow w2.heap.size 3 1 v' (j * 8 + (i + 1)) ((rowL (j * 8 + (i + 1)) (mvF W H zs x y vx vy 8)).map (Value.int .i64))) := by
            show World.ownsRow _ _ _ _ _ _ _
            rw [← Nat.add_assoc, rowL_sn, HS.out]
            exact HO7.out
          go_roundw
          case rel => first | exact ⟨i + 1, by omega, by go_num, HN.out, E7⟩ | ((repeat apply Exists.intro); exact ⟨⟨i + 1, by omega, by go_num, HN.out, E7⟩, rfl⟩)
          case measure => simp [intOf]; omega
        · obtain rfl : i = 8 := by omega
          go_wp2
          go_roundw
          case rel => first | exact ⟨j + 1, by omega, by go_num, by rw [Nat.succ_mul]; exact HO.out, hE⟩ | ((repeat apply Exists.intro); exact ⟨⟨j + 1, by omega, by go_num, by rw [Nat.succ_mul]; exact HO.out, hE⟩, rfl⟩)
          case measure => simp [intOf]; omega
    · obtain rfl : j = 8 := by omega
      go_wp2
      go_ret
      exact ⟨_, rfl, E1.trans hE, Ints.of_row HO.out (by omega)⟩
end Go.Proofs.YtaamnpbhmckpbaaDoor

/- What is in a frame: plain. -/
namespace Go.Proofs.YtaamnpbhmckpbaaDoor
set_option linter.unusedVariables false
set_option linter.unusedSimpArgs false

/-- the sum of the first numbers -/
def sumF (f : Nat → Int) : Nat → Int
  | 0 => 0
  | k + 1 => sumF f k + f k
theorem sumF_bound {f : Nat → Int} (h : ∀ j, 0 ≤ f j ∧ f j ≤ 255) (k : Nat) : 0 ≤ sumF f k ∧ sumF f k ≤ 255 * k := by
  induction k with
  | zero => simp [sumF]
  | succ k ih =>
    have := h k
    unfold sumF
    push_cast
    omega
theorem sumF_congr {f g : Nat → Int} {k : Nat} (h : ∀ j, j < k → f j = g j) : sumF f k = sumF g k := by
  induction k with
  | zero => rfl
  | succ k ih => unfold sumF; rw [ih (fun j hj => h j (by omega)), h k (by omega)]
theorem sumF_add (f g : Nat → Int) (k : Nat) : sumF (fun j => f j + g j) k = sumF f k + sumF g k := by
  induction k with
  | zero => rfl
  | succ k ih => unfold sumF; rw [ih]; omega
theorem sumF_zero (k : Nat) : sumF (fun _ => 0) k = 0 := by
  induction k with
  | zero => rfl
  | succ k ih => unfold sumF; rw [ih]; rfl
theorem sumF_le {f g : Nat → Int} {k : Nat} (h : ∀ j, j < k → f j ≤ g j) : sumF f k ≤ sumF g k := by
  induction k with
  | zero => exact Int.le_refl _
  | succ k ih =>
    have h1 := ih (fun j hj => h j (by omega))
    have h2 := h k (by omega)
    unfold sumF
    omega
theorem sumF_split (f : Nat → Int) (a b : Nat) : sumF f (a + b) = sumF f a + sumF (fun j => f (a + j)) b := by
  induction b with
  | zero => simp [sumF]
  | succ b ih => rw [← Nat.add_assoc]; show sumF f (a + b) + f (a + b) = sumF f a + (sumF (fun j => f (a + j)) b + f (a + b)); rw [ih]; omega
theorem sumF_mul (f : Nat → Int) (m n : Nat) : sumF f (m * n) = sumF (fun i => sumF (fun a => f (i * n + a)) n) m := by
  induction m with
  | zero => simp [sumF]
  | succ m ih => rw [Nat.succ_mul, sumF_split, ih]; rfl
theorem sumF_swap (f : Nat → Nat → Int) (m n : Nat) : sumF (fun i => sumF (f i) n) m = sumF (fun j => sumF (fun i => f i j) m) n := by
  induction m with
  | zero => exact (sumF_zero n).symm
  | succ m ih => show sumF (fun i => sumF (f i) n) m + sumF (f m) n = _; rw [ih, ← sumF_add]; rfl
theorem sadF_sum (f g : Nat → Int) (k : Nat) : sadF f g k = sumF (fun j => max (f j - g j) (g j - f j)) k := by
  induction k with
  | zero => rfl
  | succ k ih => unfold sadF sumF; rw [ih]
theorem sadF_at {f g : Nat → Int} {k j : Nat} (h : j < k) : max (f j - g j) (g j - f j) ≤ sadF f g k := by
  induction k with
  | zero => omega
  | succ k ih =>
    have h0 := sadF_pos f g k
    unfold sadF
    by_cases hj : j = k
    · subst hj; omega
    · have := ih (by omega); omega
/-- the mean of 64 samples, rounded -/
def meanF (f : Nat → Int) : Int := (32 + sumF f 64) / 64
theorem meanF_in {f : Nat → Int} (h : ∀ j, 0 ≤ f j ∧ f j ≤ 255) : 0 ≤ meanF f ∧ meanF f ≤ 255 := by
  have := sumF_bound h 64
  unfold meanF
  omega
/-- what is in a square -/
def actF (f : Nat → Int) : Int := sadF f (fun _ => meanF f) 64
theorem actF_in {f : Nat → Int} (h : ∀ j, 0 ≤ f j ∧ f j ≤ 255) : 0 ≤ actF f ∧ actF f ≤ 16320 := by
  refine ⟨sadF_pos _ _ _, ?_⟩
  have := sadF_le h (fun _ => meanF_in h) 64
  exact this
theorem actF_congr {f g : Nat → Int} (h : ∀ j, j < 64 → f j = g j) : actF f = actF g := by
  have hm : meanF f = meanF g := by unfold meanF; rw [sumF_congr h]
  unfold actF
  rw [sadF_sum, sadF_sum, hm]
  exact sumF_congr fun j hj => by rw [h j hj]
/-- squares, row by row -/
def blkF (v : Nat → Nat → Int) (m : Nat) : Nat → Int
  | 0 => 0
  | k + 1 => blkF v m k + v (k % m) (k / m)
theorem blkF_sum (v : Nat → Nat → Int) (m k : Nat) : blkF v m k = sumF (fun q => v (q % m) (q / m)) k := by
  induction k with
  | zero => rfl
  | succ k ih => unfold blkF sumF; rw [ih]
theorem blkF_bound {v : Nat → Nat → Int} (h : ∀ i j, 0 ≤ v i j ∧ v i j ≤ 16320) (m k : Nat) : 0 ≤ blkF v m k ∧ blkF v m k ≤ 16320 * k := by
  induction k with
  | zero => simp [blkF]
  | succ k ih =>
    have := h (k % m) (k / m)
    unfold blkF
    push_cast
    omega
theorem blkF_at (v : Nat → Nat → Int) {m i j : Nat} (hi : i < m) : blkF v m (j * m + i + 1) = blkF v m (j * m + i) + v i j := by
  show _ + v ((j * m + i) % m) ((j * m + i) / m) = _
  have h1 : (j * m + i) % m = i := by rw [Nat.add_comm, Nat.add_mul_mod_self_right, Nat.mod_eq_of_lt hi]
  have h2 : (j * m + i) / m = j := by rw [Nat.add_comm, Nat.add_mul_div_right _ _ (by omega), Nat.div_eq_of_lt hi, Nat.zero_add]
  rw [h1, h2]
/-- the samples of a square of 8 by 8 -/
def sqF (W H : Int) (zs : List Int) (i j : Nat) : Nat → Int := getF W H zs (8 * (i : Int)) (8 * (j : Int)) 8
theorem sqF_in {W H : Int} {zs : List Int} (h : may W H zs) (i j k : Nat) : 0 ≤ sqF W H zs i j k ∧ sqF W H zs i j k ≤ 255 := may_getD h _
def innV (W H : Int) (zs : List Int) (i j : Nat) : Int := actF (sqF W H zs i j)
def outV (W H : Int) (xs : List Int) (W' H' : Int) (ys : List Int) (i j : Nat) : Int := min (actF (sqF W H xs i j)) (sadF (sqF W H xs i j) (sqF W' H' ys i j) 64)
theorem innV_in {W H : Int} {zs : List Int} (h : may W H zs) (i j : Nat) : 0 ≤ innV W H zs i j ∧ innV W H zs i j ≤ 16320 := actF_in (sqF_in h i j)
theorem outV_in {W H W' H' : Int} {xs ys : List Int} (h : may W H xs) (i j : Nat) : 0 ≤ outV W H xs W' H' ys i j ∧ outV W H xs W' H' ys i j ≤ 16320 := by
  have h1 := actF_in (sqF_in h i j)
  have h2 := sadF_pos (sqF W H xs i j) (sqF W' H' ys i j) 64
  unfold outV
  omega
/-- what may be said of one frame -/
def inAns (W H : Int) (zs : List Int) : Fall := if may W H zs then none else form
def inV (W H : Int) (zs : List Int) : Int := if may W H zs then blkF (innV W H zs) (W.toNat / 8) (W.toNat / 8 * (H.toNat / 8)) else 0
def ouV (W H : Int) (xs : List Int) (W' H' : Int) (ys : List Int) : Int := match frAns W H xs W' H' ys with
  | none => blkF (outV W H xs W' H' ys) (W.toNat / 8) (W.toNat / 8 * (H.toNat / 8))
  | some _ => 0
/-- the sides of a frame in squares -/
theorem may_sides {W H : Int} {zs : List Int} (h : may W H zs) : ∃ m p : Nat, W = 8 * (m : Int) ∧ H = 8 * (p : Int) ∧ 1 ≤ m ∧ m ≤ 4 ∧ 1 ≤ p ∧ p ≤ 4 ∧ W.toNat / 8 = m ∧ H.toNat / 8 = p := by
  have h1 := sideB_true h.1
  have h2 := sideB_true h.2.1
  exact ⟨W.toNat / 8, H.toNat / 8, by omega, by omega, by omega, by omega, by omega, by omega, rfl, rfl⟩
end Go.Proofs.YtaamnpbhmckpbaaDoor

/- block.Sub, Add, Zero: contracts over this seat's translation. -/
namespace Go.Proofs.YtaamnpbhmckpbaaDoor
set_option linter.unusedVariables false
set_option linter.unusedSimpArgs false
open Go.RowKit Go.Extern.Stop Go.Stop Go.Extern

theorem rowL_congrb {N : Nat} {f g : Nat → Int} (h : ∀ j, j < N → f j = g j) : rowL N f = rowL N g := by
  unfold rowL
  apply List.map_congr_left
  intro j hj
  exact h j (List.mem_range.1 hj)
theorem zeros_rowb (n : Nat) : (madeCells (Value.int .i64 0).cells (n * 1)).toList = (rowL n fun _ => 0).map (Value.int .i64) := by
  apply List.ext_getElem?
  intro j
  by_cases hj : j < n <;> simp [madeCells, rowL, Value.cells, hj, Nat.mod_one]
def subF (x y : Int) : Int := x - y
def addF (x y : Int) : Int := clipI (x + y)
/-- two lists, number by number -/
def twoV (f : Int → Int → Int) (xs ys : List Int) : List Int := match matAns xs ys with
  | none => rowL xs.length fun i => f (xs.getD i 0) (ys.getD i 0)
  | some _ => []
end Go.Proofs.YtaamnpbhmckpbaaDoor

/- A result of type kinref.Err, kept in a variable of the call's own. -/
namespace Go.Proofs.YtaamnpbhmckpbaaDoor
set_option linter.unusedVariables false
set_option linter.unusedSimpArgs false
open Go.RowKit Go.Extern.Stop Go.Stop Go.Extern
theorem res_cells {w : World} {B : Nat} {c : Int} (h0 : w.cell? ⟨B, 0, none⟩ = some (.int .i64 0)) (h1 : w.cell? ⟨B, 1, none⟩ = some (.slice none 0 0)) (v : Value) :
    ((w.setCell ⟨B, 0, none⟩ (.int .i64 c)).setCell ⟨B, 1, none⟩ v).cell? ⟨B, 0, none⟩ = some (.int .i64 c) ∧ ((w.setCell ⟨B, 0, none⟩ (.int .i64 c)).setCell ⟨B, 1, none⟩ v).cell? ⟨B, 1, none⟩ = some v := by
  have e0 := World.cell?_setCell_same _ _ (.int .i64 c) h0
  have e1 := (World.cell?_setCell_other w ⟨B, 0, none⟩ ⟨B, 1, none⟩ (.int .i64 c) (by simp)).trans h1
  have e2 := World.cell?_setCell_same _ _ v e1
  have e3 := (World.cell?_setCell_other (w.setCell ⟨B, 0, none⟩ (.int .i64 c)) ⟨B, 1, none⟩ ⟨B, 0, none⟩ v (by simp)).trans e0
  exact ⟨e3, e2⟩
/-- what such a variable holds behind calls -/
def ResAt (w : World) (B : Nat) : Prop := w.cell? ⟨B, 0, none⟩ = some (.int .i64 0) ∧ w.cell? ⟨B, 1, none⟩ = some (.slice none 0 0) ∧ w.frozen? ⟨B, 0, none⟩ = false ∧ w.frozen? ⟨B, 1, none⟩ = false
theorem ResAt.ext {w w' : World} {B : Nat} (h : ResAt w B) (k : Ext w w') : ResAt w' B := by
  obtain ⟨h0, h1, h2, h3⟩ := h
  exact ⟨k.cell h0, k.cell h1, (Below.frozen k (Ext.lt h0)).trans h2, (Below.frozen k (Ext.lt h1)).trans h3⟩
theorem ResAt.new (w : World) : ResAt (w.alloc (.cells #[.int .i64 0, .slice none 0 0] 39)) w.heap.size := by
  refine ⟨?_, ?_, ?_, ?_⟩ <;> simp
theorem ResAt.under {B b : Nat} {w w' : World} (h : ResAt w b) (k : Below B w w') (hb : b < B) : ResAt w' b := by
  obtain ⟨h0, h1, h2, h3⟩ := h
  exact ⟨(Below.cell k (p := ⟨b, 0, none⟩) hb).trans h0, (Below.cell k (p := ⟨b, 1, none⟩) hb).trans h1, (Below.frozen k (p := ⟨b, 0, none⟩) hb).trans h2, (Below.frozen k (p := ⟨b, 1, none⟩) hb).trans h3⟩
end Go.Proofs.YtaamnpbhmckpbaaDoor

/- kinref7.two, Sad: contracts over this seat's translation. -/
namespace Go.Proofs.YtaamnpbhmckpbaaDoor
set_option linter.unusedVariables false
set_option linter.unusedSimpArgs false
open Go.RowKit Go.Extern.Stop Go.Stop Go.Extern

theorem within_far {zs : List Int} : within (-1048576) 1048576 zs ↔ zs.any farB = false := by
  constructor
  · intro h
    rw [Bool.eq_false_iff]
    intro ht
    obtain ⟨x, hx, hp⟩ := List.any_eq_true.1 ht
    have := h x hx
    unfold farB at hp
    simp at hp
    omega
  · intro h x hx
    cases hp : farB x with
    | false => exact farB_no hp
    | true => rw [List.any_eq_true.2 ⟨x, hx, hp⟩] at h; cases h
theorem within_far_no {zs : List Int} (h : zs.any farB = true) : ¬ within (-1048576) 1048576 zs := fun k => by rw [within_far.1 k] at h; cases h
set_option maxRecDepth 20000 in
set_option maxHeartbeats 1000000 in
theorem rtwo_any (xs ys : List Int) (v u : Value) (w : World) (ha : Ints w v xs) (hb : Ints w u ys) :
    Calls Tryd.prog 86 #[v, u] w fun e w' => ∃ c, e = .returned (.agg #[.int .i64 c, .slice none 0 0]) ∧ Ext w w' ∧ RErrIs w' (matAns xs ys) c (.slice none 0 0) := by
  have R1 := ResAt.new w
  have W1 := Lib.hid (within_any xs (-1048576) 1048576)
  have W2 := Lib.hid (within_any ys (-1048576) 1048576)
  obtain ⟨a, cap, rfl⟩ := ha.form
  obtain ⟨b, cap', rfl⟩ := hb.form
  by_cases hl : xs.length = ys.length
  · have b1 : ((xs.length : Int) != (ys.length : Int)) = false := by simp; omega
    cases hx : xs.any farB with
    | true =>
      have HR : Hid (matAns xs ys = range) := by show _ = _; unfold matAns; rw [if_pos hl, if_pos (Or.inl hx)]
      have HW := Lib.hid (within_far_no hx)
      clear hl hx
      go_enter Tryd.func86, Tryd.ntmps86
      go_wp2_with fail
      refine (W1.out _ _ (ha.ext (by repeat (first | exact Ext.refl _ | assumption | refine Ext.alloc ?_ _ | refine Ext.drew ?_ | refine Ext.drewN ?_ _ | refine Ext.setCell ?_ (by first | exact Nat.le_refl _ | (simp; done) | omega) _ | refine Ext.trans ?_ (by assumption))))).mono ?_; rintro e w1 ⟨rfl, hx1⟩
      rw [decide_eq_false HW.out]
      go_wp2_with fail
      refine (fail_any 3 _).mono ?_; rintro e w2 ⟨rfl, hx2⟩
      obtain ⟨r0, r1, f0, f1⟩ := R1.ext (hx1.trans hx2)
      clear R1
      go_wp2
      obtain ⟨e0, e1⟩ := res_cells (c := 3) r0 r1 (.slice none 0 0)
      exact bodyPost_ret (v := .agg #[.int .i64 3, .slice none 0 0]) (by simp [results, Tryd.results86, go_sem, e0, e1]) rfl ⟨_, rfl, (by repeat (first | exact Ext.refl _ | assumption | refine Ext.alloc ?_ _ | refine Ext.drew ?_ | refine Ext.drewN ?_ _ | refine Ext.setCell ?_ (by first | exact Nat.le_refl _ | (simp; done) | omega) _ | refine Ext.trans ?_ (by assumption))), by rw [HR.out]; exact RErrIs.code (by decide)⟩
    | false =>
      have HW := Lib.hid (within_far.2 hx)
      cases hy : ys.any farB with
      | true =>
        have HR : Hid (matAns xs ys = range) := by show _ = _; unfold matAns; rw [if_pos hl, if_pos (Or.inr hy)]
        have HV := Lib.hid (within_far_no hy)
        clear hl hx hy
        go_enter Tryd.func86, Tryd.ntmps86
        go_wp2_with fail
        refine (W1.out _ _ (ha.ext (by repeat (first | exact Ext.refl _ | assumption | refine Ext.alloc ?_ _ | refine Ext.drew ?_ | refine Ext.drewN ?_ _ | refine Ext.setCell ?_ (by first | exact Nat.le_refl _ | (simp; done) | omega) _ | refine Ext.trans ?_ (by assumption))))).mono ?_; rintro e w1 ⟨rfl, hx1⟩
        rw [decide_eq_true HW.out]
        go_wp2_with fail
        refine (W2.out _ _ (hb.ext (by repeat (first | exact Ext.refl _ | assumption | refine Ext.alloc ?_ _ | refine Ext.drew ?_ | refine Ext.drewN ?_ _ | refine Ext.setCell ?_ (by first | exact Nat.le_refl _ | (simp; done) | omega) _ | refine Ext.trans ?_ (by assumption))))).mono ?_; rintro e w2 ⟨rfl, hx2⟩
        rw [decide_eq_false HV.out]
        go_wp2_with fail
        refine (fail_any 3 _).mono ?_; rintro e w3 ⟨rfl, hx3⟩
        obtain ⟨r0, r1, f0, f1⟩ := R1.ext ((hx1.trans hx2).trans hx3)
        clear R1
        go_wp2
        obtain ⟨e0, e1⟩ := res_cells (c := 3) r0 r1 (.slice none 0 0)
        exact bodyPost_ret (v := .agg #[.int .i64 3, .slice none 0 0]) (by simp [results, Tryd.results86, go_sem, e0, e1]) rfl ⟨_, rfl, (by repeat (first | exact Ext.refl _ | assumption | refine Ext.alloc ?_ _ | refine Ext.drew ?_ | refine Ext.drewN ?_ _ | refine Ext.setCell ?_ (by first | exact Nat.le_refl _ | (simp; done) | omega) _ | refine Ext.trans ?_ (by assumption))), by rw [HR.out]; exact RErrIs.code (by decide)⟩
      | false =>
        have HR : Hid (matAns xs ys = none) := by show _ = _; unfold matAns; rw [if_pos hl, if_neg (by rw [hx, hy]; decide)]
        have HV := Lib.hid (within_far.2 hy)
        clear hl hx hy
        go_enter Tryd.func86, Tryd.ntmps86
        go_wp2_with fail
        refine (W1.out _ _ (ha.ext (by repeat (first | exact Ext.refl _ | assumption | refine Ext.alloc ?_ _ | refine Ext.drew ?_ | refine Ext.drewN ?_ _ | refine Ext.setCell ?_ (by first | exact Nat.le_refl _ | (simp; done) | omega) _ | refine Ext.trans ?_ (by assumption))))).mono ?_; rintro e w1 ⟨rfl, hx1⟩
        rw [decide_eq_true HW.out]
        go_wp2_with fail
        refine (W2.out _ _ (hb.ext (by repeat (first | exact Ext.refl _ | assumption | refine Ext.alloc ?_ _ | refine Ext.drew ?_ | refine Ext.drewN ?_ _ | refine Ext.setCell ?_ (by first | exact Nat.le_refl _ | (simp; done) | omega) _ | refine Ext.trans ?_ (by assumption))))).mono ?_; rintro e w2 ⟨rfl, hx2⟩
        rw [decide_eq_true HV.out]
        obtain ⟨r0, r1, f0, f1⟩ := R1.ext (hx1.trans hx2)
        clear R1
        go_wp2
        obtain ⟨e0, e1⟩ := res_cells (c := 0) r0 r1 (.slice none 0 0)
        exact bodyPost_ret (v := .agg #[.int .i64 0, .slice none 0 0]) (by simp [results, Tryd.results86, go_sem, e0, e1]) rfl ⟨_, rfl, (by repeat (first | exact Ext.refl _ | assumption | refine Ext.alloc ?_ _ | refine Ext.drew ?_ | refine Ext.drewN ?_ _ | refine Ext.setCell ?_ (by first | exact Nat.le_refl _ | (simp; done) | omega) _ | refine Ext.trans ?_ (by assumption))), by rw [HR.out]; exact RErrIs.zero⟩
  · have b1 : ((xs.length : Int) != (ys.length : Int)) = true := by simp; omega
    have HR : Hid (matAns xs ys = fit) := by show _ = _; unfold matAns; rw [if_neg hl]
    clear hl
    go_enter Tryd.func86, Tryd.ntmps86
    go_wp2_with fail
    refine (fail_any 14 _).mono ?_; rintro e w2 ⟨rfl, hx2⟩
    obtain ⟨r0, r1, f0, f1⟩ := R1.ext hx2
    clear R1
    go_wp2
    obtain ⟨e0, e1⟩ := res_cells (c := 14) r0 r1 (.slice none 0 0)
    exact bodyPost_ret (v := .agg #[.int .i64 14, .slice none 0 0]) (by simp [results, Tryd.results86, go_sem, e0, e1]) rfl ⟨_, rfl, (by repeat (first | exact Ext.refl _ | assumption | refine Ext.alloc ?_ _ | refine Ext.drew ?_ | refine Ext.drewN ?_ _ | refine Ext.setCell ?_ (by first | exact Nat.le_refl _ | (simp; done) | omega) _ | refine Ext.trans ?_ (by assumption))), by rw [HR.out]; exact RErrIs.code (by decide)⟩
end Go.Proofs.YtaamnpbhmckpbaaDoor

/- kinref7.Sad: its contract over this seat's translation. -/
namespace Go.Proofs.YtaamnpbhmckpbaaDoor
set_option linter.unusedVariables false
set_option linter.unusedSimpArgs false
open Go.RowKit Go.Extern.Stop Go.Stop Go.Extern

set_option maxRecDepth 20000 in
set_option maxHeartbeats 2000000 in
theorem rsad_any (xs ys : List Int) (v u : Value) (w : World) (ha : Ints w v xs) (hb : Ints w u ys) (hN : xs.length ≤ 1000000) :
    Calls Tryd.prog 68 #[v, u] w (RIPost w (sadV xs ys) (matAns xs ys)) := by
  have RT := Lib.hid (rtwo_any xs ys)
  obtain ⟨a, cap, rfl⟩ := ha.form
  obtain ⟨b, cap', rfl⟩ := hb.form
  cases hm : matAns xs ys with
  | some f =>
    obtain ⟨p, k⟩ := f
    have HV : Hid (sadV xs ys = 0) := by show _ = _; unfold sadV; rw [hm]
    rw [hm] at RT
    clear hm
    go_enter Tryd.func68, Tryd.ntmps68
    go_wp2_with fail
    refine (RT.out _ _ _ (ha.ext (by repeat (first | exact Ext.refl _ | assumption | refine Ext.alloc ?_ _ | refine Ext.drew ?_ | refine Ext.drewN ?_ _ | refine Ext.setCell ?_ (by first | exact Nat.le_refl _ | (simp; done) | omega) _ | refine Ext.trans ?_ (by assumption)))) (hb.ext (by repeat (first | exact Ext.refl _ | assumption | refine Ext.alloc ?_ _ | refine Ext.drew ?_ | refine Ext.drewN ?_ _ | refine Ext.setCell ?_ (by first | exact Nat.le_refl _ | (simp; done) | omega) _ | refine Ext.trans ?_ (by assumption))))).mono ?_; rintro e w1 ⟨c, rfl, hx1, hr1⟩
    have E1 : Ext w (w1.alloc (.cells #[.int .i64 c, .slice none 0 0] 39)) := (by repeat (first | exact Ext.refl _ | assumption | refine Ext.alloc ?_ _ | refine Ext.drew ?_ | refine Ext.drewN ?_ _ | refine Ext.setCell ?_ (by first | exact Nat.le_refl _ | (simp; done) | omega) _ | refine Ext.trans ?_ (by assumption)))
    have RV := (ResAt.new w).ext (hx1.alloc (.cells #[.int .i64 c, .slice none 0 0] 39))
    have p0 : (w1.alloc (.cells #[.int .i64 c, .slice none 0 0] 39)).cell? ⟨w1.heap.size, 0, none⟩ = some (.int .i64 c) := by simp
    have p1 : (w1.alloc (.cells #[.int .i64 c, .slice none 0 0] 39)).cell? ⟨w1.heap.size, 1, none⟩ = some (.slice none 0 0) := by simp
    go_wp2_with fail
    obtain ⟨B, hB⟩ : ∃ B, B = w1.heap.size := ⟨_, rfl⟩
    rw [← hB] at p0 p1 ⊢
    clear hB
    revert E1 RV p0 p1
    generalize w1.alloc (.cells #[.int .i64 c, .slice none 0 0] 39) = wS
    intro E1 RV p0 p1
    clear hx1
    obtain ⟨rfl, hc, hrow⟩ := hr1
    have hc0 : (c == 0) = false := by simpa using hc
    have HC := Lib.hid hc
    clear hc
    refine wp_loop_rounds 1 ?_
    rw [rounds_succ]
    go_wp2_with fail
    refine (ok_any c _ _).mono ?_; rintro e wA ⟨rfl, hxA⟩
    rw [hc0]
    obtain ⟨r0, r1, f0, f1⟩ := RV.ext hxA
    have q0 := hxA.cell p0
    have q1 := hxA.cell p1
    have hrow := hrow
    clear RV p0 p1
    go_wp2
    go_region
    go_wp2
    obtain ⟨e0, e1⟩ := res_cells (c := c) r0 r1 (.slice none 0 0)
    exact bodyPost_ret (v := .tuple #[.int .i64 0, .agg #[.int .i64 c, .slice none 0 0]]) (by simp [results, Tryd.results68, go_sem, e0, e1]) rfl ⟨_, _, _, _, by rw [HV.out], (by repeat (first | exact Ext.refl _ | assumption | refine Ext.alloc ?_ _ | refine Ext.drew ?_ | refine Ext.drewN ?_ _ | refine Ext.setCell ?_ (by first | exact Nat.le_refl _ | (simp; done) | omega) _ | refine Ext.trans ?_ (by assumption))), rfl, HC.out, by
      have hp : p = [] := by
        have := hrow.form
        obtain ⟨a, cap, e⟩ := this
        simp only [Value.slice.injEq] at e
        exact List.eq_nil_of_length_eq_zero e.2.1.symm
      subst hp
      exact Row.nil _⟩
  | none =>
    obtain ⟨hl, hX, hY⟩ := matAns_none hm
    have HV : Hid (sadV xs ys = sadF (fun i => xs.getD i 0) (fun i => ys.getD i 0) xs.length) := by show _ = _; unfold sadV; rw [hm]
    rw [hm] at RT
    obtain ⟨n, hn⟩ : ∃ n, n = xs.length := ⟨_, rfl⟩
    rw [← hn] at ha hN HV hl ⊢
    rw [← hl] at hb ⊢
    have AG := Lib.hid ha.had
    have BG := Lib.hid hb.had
    have HN := Lib.hid hn
    have HL := Lib.hid hl
    have HX := Lib.hid hX
    have HY := Lib.hid hY
    clear hm hl hX hY hn
    go_enter Tryd.func68, Tryd.ntmps68
    go_wp2_with fail
    refine (RT.out _ _ _ (ha.ext (by repeat (first | exact Ext.refl _ | assumption | refine Ext.alloc ?_ _ | refine Ext.drew ?_ | refine Ext.drewN ?_ _ | refine Ext.setCell ?_ (by first | exact Nat.le_refl _ | (simp; done) | omega) _ | refine Ext.trans ?_ (by assumption)))) (hb.ext (by repeat (first | exact Ext.refl _ | assumption | refine Ext.alloc ?_ _ | refine Ext.drew ?_ | refine Ext.drewN ?_ _ | refine Ext.setCell ?_ (by first | exact Nat.le_refl _ | (simp; done) | omega) _ | refine Ext.trans ?_ (by assumption))))).mono ?_; rintro e w1 ⟨c, rfl, hx1, hr1⟩
    have E1 : Ext w (w1.alloc (.cells #[.int .i64 c, .slice none 0 0] 39)) := (by repeat (first | exact Ext.refl _ | assumption | refine Ext.alloc ?_ _ | refine Ext.drew ?_ | refine Ext.drewN ?_ _ | refine Ext.setCell ?_ (by first | exact Nat.le_refl _ | (simp; done) | omega) _ | refine Ext.trans ?_ (by assumption)))
    have RV := (ResAt.new w).ext (hx1.alloc (.cells #[.int .i64 c, .slice none 0 0] 39))
    have p0 : (w1.alloc (.cells #[.int .i64 c, .slice none 0 0] 39)).cell? ⟨w1.heap.size, 0, none⟩ = some (.int .i64 c) := by simp
    have p1 : (w1.alloc (.cells #[.int .i64 c, .slice none 0 0] 39)).cell? ⟨w1.heap.size, 1, none⟩ = some (.slice none 0 0) := by simp
    go_wp2_with fail
    obtain ⟨B, hB⟩ : ∃ B, B = w1.heap.size := ⟨_, rfl⟩
    rw [← hB] at p0 p1 ⊢
    clear hB
    revert E1 RV p0 p1
    generalize w1.alloc (.cells #[.int .i64 c, .slice none 0 0] 39) = wS
    intro E1 RV p0 p1
    clear hx1
    obtain ⟨rfl, -⟩ := hr1
    go_loopw [7, 8] (fun sv iv wr => ∃ k : Nat, k ≤ n ∧ iv = .int .i64 k ∧ sv = .int .i64 (sadF (fun i => xs.getD i 0) (fun i => ys.getD i 0) k) ∧ Ext wS wr) (fun _ iv _ => n - (intOf iv).toNat)
    case atStart => exact ⟨0, Nat.zero_le _, rfl, rfl, Ext.refl _⟩
    case round =>
      obtain ⟨k, hk, rfl, rfl, hE⟩ := hrel
      have q0 := hE.cell p0
      have q1 := hE.cell p1
      go_wp2_with fail
      refine (ok_any 0 _ _).mono ?_; rintro e wA ⟨rfl, hxA⟩
      rw [show ((0 : Int) == 0) = true from rfl]
      have hE : Ext wS wA := hE.trans hxA
      clear hxA q0 q1
      by_cases hlt : k < n
      · obtain ⟨x, hx'⟩ : ∃ x, xs.getD k 0 = x := ⟨_, rfl⟩
        obtain ⟨y, hy'⟩ : ∃ y, ys.getD k 0 = y := ⟨_, rfl⟩
        obtain ⟨g, off, rfl⟩ := AG.out (by omega)
        obtain ⟨g', off', rfl⟩ := BG.out (by omega)
        have cx := (E1.trans hE).cell (ha.at (get_of_lt (by rw [← HN.out]; exact hlt)))
        have cy := (E1.trans hE).cell (hb.at (get_of_lt (by rw [← HL.out]; exact hlt)))
        have bx := HX.out k
        have by' := HY.out k
        have b0 := sadF_bound HX.out HY.out k
        have b1 := sadF_pos (fun i => xs.getD i 0) (fun i => ys.getD i 0) k
        have HS : Hid (sadF (fun i => xs.getD i 0) (fun i => ys.getD i 0) (k + 1) = sadF (fun i => xs.getD i 0) (fun i => ys.getD i 0) k + max (x - y) (y - x)) := by show _ = _; rw [← hx', ← hy']; rfl
        rw [hx'] at cx bx
        rw [hy'] at cy by'
        clear hx' hy'
        revert b0 b1 HS
        generalize sadF (fun i => xs.getD i 0) (fun i => ys.getD i 0) k = s
        intro b0 b1 HS
        have r1 := mx2
        have e1 : IntKind.i64.wrap (x - y) = x - y := by rw [IntKind.wrap_i64]; omega
        have e2 : IntKind.i64.wrap (y - x) = y - x := by rw [IntKind.wrap_i64]; omega
        have e3 : IntKind.i64.wrap (s + max (x - y) (y - x)) = s + max (x - y) (y - x) := by rw [IntKind.wrap_i64]; omega
        go_wp2
        go_quiet (fail)
        go_wp2
        go_roundw
        case rel => exact ⟨k + 1, by omega, by go_num, by rw [HS.out], hE.drewN _⟩
        case measure => simp [intOf]; omega
      · obtain rfl : k = n := by omega
        obtain ⟨r0, r1, f0, f1⟩ := RV.ext hE
        have q0 := hE.cell p0
        have q1 := hE.cell p1
        clear p0 p1 RV
        go_wp2
        go_region
        go_wp2
        obtain ⟨e0, e1⟩ := res_cells (c := 0) r0 r1 (.slice none 0 0)
        exact bodyPost_ret (v := .tuple #[.int .i64 (sadF (fun i => xs.getD i 0) (fun i => ys.getD i 0) k), .agg #[.int .i64 0, .slice none 0 0]]) (by simp [results, Tryd.results68, go_sem, e0, e1]) rfl ⟨_, _, _, _, by rw [HV.out], (by repeat (first | exact Ext.refl _ | assumption | refine Ext.alloc ?_ _ | refine Ext.drew ?_ | refine Ext.drewN ?_ _ | refine Ext.setCell ?_ (by first | exact Nat.le_refl _ | (simp; done) | omega) _ | refine Ext.trans ?_ (by assumption))), RErrIs.zero⟩
end Go.Proofs.YtaamnpbhmckpbaaDoor

/- stats.activity, sum, Inner, Outer; kinref16.inside: contracts over this seat's translation. -/
namespace Go.Proofs.YtaamnpbhmckpbaaDoor
set_option linter.unusedVariables false
set_option linter.unusedSimpArgs false
open Go.RowKit Go.Extern.Stop Go.Stop Go.Extern

end Go.Proofs.YtaamnpbhmckpbaaDoor

/- stats.Inner, Outer: contracts over this seat's translation. -/
namespace Go.Proofs.YtaamnpbhmckpbaaDoor
set_option linter.unusedVariables false
set_option linter.unusedSimpArgs false
open Go.RowKit Go.Extern.Stop Go.Stop Go.Extern

theorem get8 (W H : Int) (i j : Nat) (hi : i < 4) (hj : j < 4) (zs : List Int) (a : Option Addr) (n cap : Nat) (w : World) (h : Ints w (.slice a n cap) zs) (hm : may W H zs) :
    Calls Tryd.prog 52 #[.agg #[.int .i64 W, .int .i64 H, .slice a n cap], .int .i64 (8 * (i : Int)), .int .i64 (8 * (j : Int)), .int .i64 8] w fun e w' => ∃ u, e = .returned u ∧ Ext w w' ∧ Ints w' u (rowL 64 (sqF W H zs i j)) :=
  get_ok W H (8 * (i : Int)) (8 * (j : Int)) 8 zs a n cap w h hm (by decide) (by omega) (by omega)
theorem sad_rows {f g : Nat → Int} (hf : ∀ j, 0 ≤ f j ∧ f j ≤ 255) (hg : ∀ j, 0 ≤ g j ∧ g j ≤ 255) : matAns (rowL 64 f) (rowL 64 g) = none ∧ sadV (rowL 64 f) (rowL 64 g) = sadF f g 64 := by
  have any (h : Nat → Int) (hh : ∀ j, 0 ≤ h j ∧ h j ≤ 255) : (rowL 64 h).any farB = false := any_no fun j x hj hx => by
    rw [rowL_length] at hj
    rw [rowL_get hj] at hx
    obtain rfl : h j = x := by simpa using hx
    have := hh j
    unfold farB
    simp
    omega
  have hm : matAns (rowL 64 f) (rowL 64 g) = none := by
    unfold matAns
    rw [if_pos (by rw [rowL_length, rowL_length]), if_neg (by rw [any f hf, any g hg]; simp)]
  refine ⟨hm, ?_⟩
  unfold sadV
  rw [hm]
  show sadF _ _ _ = _
  rw [rowL_length, sadF_sum, sadF_sum]
  exact sumF_congr fun j hj => by simp only [List.getD, rowL_get hj, Option.getD_some]
theorem sadF_in {f g : Nat → Int} (hf : ∀ j, 0 ≤ f j ∧ f j ≤ 255) (hg : ∀ j, 0 ≤ g j ∧ g j ≤ 255) : 0 ≤ sadF f g 64 ∧ sadF f g 64 ≤ 16320 := ⟨sadF_pos _ _ _, sadF_le hf hg 64⟩
end Go.Proofs.YtaamnpbhmckpbaaDoor

/- kinref6.both, Sum, Peak: contracts over this seat's translation. -/
namespace Go.Proofs.YtaamnpbhmckpbaaDoor
set_option linter.unusedVariables false
set_option linter.unusedSimpArgs false
open Go.RowKit Go.Extern.Stop Go.Stop Go.Extern

theorem rfall_plain {w : World} {p : List (ByteArray × Int)} {k c : Int} (h : RErrIs w (some (p, k)) c (.slice none 0 0)) : p = [] ∧ c = k ∧ k ≠ 0 := by
  obtain ⟨h1, h2, h3⟩ := h
  obtain ⟨a, cap, e⟩ := h3.form
  simp only [Value.slice.injEq] at e
  exact ⟨List.eq_nil_of_length_eq_zero e.2.1.symm, h1, h2⟩
/-- the document's error, with no path -/
def BPost (w : World) (f : Fall) (e : Ending) (w' : World) : Prop := ∃ c, e = .returned (.agg #[.int .i64 c, .slice none 0 0]) ∧ Ext w w' ∧ RErrIs w' f c (.slice none 0 0)
end Go.Proofs.YtaamnpbhmckpbaaDoor

/- kinref16.Inner, Outer: contracts over this seat's translation. -/
namespace Go.Proofs.YtaamnpbhmckpbaaDoor
set_option linter.unusedVariables false
set_option linter.unusedSimpArgs false
open Go.RowKit Go.Extern.Stop Go.Stop Go.Extern

theorem area64 {W H : Int} {m p : Nat} (hW : W = 8 * (m : Int)) (hH : H = 8 * (p : Int)) : W * H = 64 * ((m * p : Nat) : Int) := by
  rw [hW, hH]
  push_cast
  rw [Int.mul_assoc 8 (m : Int), Int.mul_left_comm (m : Int) 8, ← Int.mul_assoc 8 8]
  rfl
theorem inner_loc {m p k : Nat} (hm : 1 ≤ m) (hk : k < m * p) : k % m < m ∧ k / m < p := ⟨Nat.mod_lt _ (by omega), Nat.div_lt_of_lt_mul hk⟩
end Go.Proofs.YtaamnpbhmckpbaaDoor

/- kinref11.Block where it gives a square: its contract over this seat's translation. -/
namespace Go.Proofs.YtaamnpbhmckpbaaDoor
set_option linter.unusedVariables false
set_option linter.unusedSimpArgs false
open Go.RowKit Go.Extern.Stop Go.Stop Go.Extern

/-- an append of one int at a step of a region, behind a call -/
theorem step_push0 {ops : Array Oper} {o : Oper} {a : Act} {K : Act → World → Prop} {Q : Exit → Act → World → Prop} {E : Prop} {W : World} {base : Nat} (hgd : o.guard = none) (s y : Operand) (t : TypeId)
    (ho : o.op = .call { callee := .builtin .append, args := #[s, y], argTypes := #[t, t] }) (ht : Tryd.prog.underlying t = some (.slice 3))
    (v : Value) (n : Nat) (xs : List Value) (x : Int) (hs : a.eval s = v) (hown : W.ownsRow base 3 1 v n xs) (hx : a.eval y = .slice (some ⟨W.heap.size, 0, none⟩) 1 1) (hb : base ≤ W.heap.size) (hn : n ≤ 1000000000000)
    (h : ∀ g cap w', w'.ownsRow base 3 1 (.slice (some ⟨g, 0, none⟩) (n + 1) cap) (n + 1) (xs ++ [.int .i64 x]) → Below base W w' → W.grownBy w' v.ownBlock → K (a.put o.dst (.slice (some ⟨g, 0, none⟩) (n + 1) cap)) w') :
    if Region.wanted o (yielded ops a.tmps) = true then Oper.wp Tryd.prog o a (W.alloc (.cells #[.int .i64 x] 3)) K Q else E := by
  obtain ⟨i0, hi, hz0, hz1, hz2⟩ := info_parts infoInt
  refine step_append_lies _ hgd s y t ho base 3 i0 (.int .i64 0) 1 8 ht hi hz0 hz1 hz2 rfl (by decide) v n xs hs (hown.alloc _) ⟨W.heap.size, 0, none⟩ 1 1 [.int .i64 x] hx rfl (World.news_of_block (cs := #[.int .i64 x]) (t := 3) (fr := (0, 0)) (heap_alloc_new W _)) (one_int _) (by decide) (by unfold maxLen; omega) (by omega) (by simp; omega) (W.heap.size + 1) (by simp) ?_
  intro g cap w' h1 h2 _ _
  refine h g cap w' h1 (Below.grown ((Below.refl base W).alloc hb _) h2 (by simp; omega) (fun k hk => (hown.lt k hk).1)) ⟨h2.os, h2.tape, h2.output, Nat.le_trans (by simp) h2.size, fun k hk hne => ?_⟩
  exact (h2.block k (by simp; omega) hne).trans (Below.heap_alloc W _ k hk)
set_option maxHeartbeats 4000000 in
set_option maxRecDepth 20000 in
theorem rblock_4 (W H x y vx vy : Int) (zs : List Int) (a : Option Addr) (n cap : Nat) (w : World) (h : Ints w (.slice a n cap) zs) (hm : may W H zs) (hv : vecB vx vy = true) (hx : 0 ≤ x ∧ x ≤ 32) (hy : 0 ≤ y ∧ y ≤ 32) :
    Calls Tryd.prog 43 #[.agg #[.int .i64 W, .int .i64 H, .slice a n cap], .int .i64 x, .int .i64 y, .int .i64 4, .agg #[.int .i64 vx, .int .i64 vy]] w fun e w' => ∃ u, e = .returned u ∧ Ext w w' ∧ Ints w' u (rowL 16 (mvF W H zs x y vx vy 4)) := by
  have B1 := Lib.hid (fun w => rvec_any vx vy w)
  have M1 := Lib.hid (fun w h => rmay_any W H zs a n cap w h)
  have A1 := Lib.hid (fun (w : World) (x y : Int) (h : Ints w (.slice a n cap) zs) b1 b2 => rhalf_any W H x y zs a n cap w h hm b1 b2)
  have H1 := Lib.hid hm
  have V1 := Lib.hid hv
  obtain ⟨v1, v2, v3, v4⟩ := vecB_true hv
  obtain ⟨hx1, hx2⟩ := hx
  obtain ⟨hy1, hy2⟩ := hy
  obtain ⟨F0, G0⟩ := FrBox.vec w W H vx vy (.slice a n cap)
  have E0 : Ext w ((w.alloc (.cells #[.int .i64 W, .int .i64 H, .slice a n cap] 67)).alloc (.cells #[.int .i64 vx, .int .i64 vy] 69)) := (by repeat (first | exact Ext.refl _ | assumption | refine Ext.alloc ?_ _ | refine Ext.drew ?_ | refine Ext.drewN ?_ _ | refine Ext.setCell ?_ (by first | exact Nat.le_refl _ | (simp; done) | omega) _ | refine Ext.trans ?_ (by assumption)))
  clear hm hv
  go_enter Tryd.func43, Tryd.ntmps43
  go_wp2_with fail
  revert F0 G0 E0
  generalize (w.alloc (.cells #[.int .i64 W, .int .i64 H, .slice a n cap] 67)).alloc (.cells #[.int .i64 vx, .int .i64 vy] 69) = w0
  intro F0 G0 E0
  have FB := Lib.hid F0
  have GB := Lib.hid G0
  clear F0 G0
  refine (M1.out _ (h.ext E0)).mono ?_; rintro e w1 ⟨rfl, hx1'⟩
  rw [decide_eq_true H1.out]
  obtain ⟨q0, q1⟩ := GB.out.ext hx1'
  go_wp2_with fail
  refine (B1.out _).mono ?_; rintro e w2 ⟨rfl, hx2'⟩
  rw [V1.out]
  have FC := Lib.hid (FB.out.ext (hx1'.trans hx2'))
  have GC := Lib.hid (GB.out.ext (hx1'.trans hx2'))
  have E1 := (E0.trans hx1').trans hx2'
  clear hx1' hx2' q0 q1 FB GB E0
  go_wp2_with fail
  go_loopw [11, 12] (fun bv kv wr => ∃ k : Nat, k ≤ 16 ∧ kv = .int .i64 k ∧ Hid (wr.ownsRow w2.heap.size 3 1 bv k ((rowL k (mvF W H zs x y vx vy 4)).map (Value.int .i64))) ∧ Ext w2 wr) (fun _ kv _ => 16 - (intOf kv).toNat)
  case atStart => exact ⟨0, Nat.zero_le _, rfl, World.ownsRow_nil _ _ _ _, Ext.refl _⟩
  case round =>
    obtain ⟨k, hk, rfl, HO, hE⟩ := hrel
    by_cases hlt : k < 16
    · obtain ⟨i, hi⟩ : ∃ i, i = k % 4 := ⟨_, rfl⟩
      obtain ⟨j, hj⟩ : ∃ j, j = k / 4 := ⟨_, rfl⟩
      have q2 : Int.tmod (k : Int) 4 = (i : Int) := by rw [hi]; exact Int.ofNat_tmod k 4
      have q2' : (k : Int) % 4 = (i : Int) := by rw [hi]; exact Int.natCast_emod k 4
      have q4 : Int.tdiv (k : Int) 4 = (j : Int) := by rw [hj]; exact Int.ofNat_tdiv k 4
      have q4' : (k : Int) / 4 = (j : Int) := by rw [hj]; exact Int.natCast_ediv k 4
      have hil : i < 4 := by omega
      have hjl : j < 4 := by omega
      have q8 : IntKind.i64.wrap (i : Int) = (i : Int) := by rw [IntKind.wrap_i64]; omega
      have q9 : IntKind.i64.wrap (j : Int) = (j : Int) := by rw [IntKind.wrap_i64]; omega
      have d1 : IntKind.i64.wrap (x + (i : Int)) = x + (i : Int) := by rw [IntKind.wrap_i64]; omega
      have d2 : IntKind.i64.wrap (y + (j : Int)) = y + (j : Int) := by rw [IntKind.wrap_i64]; omega
      have d3 : IntKind.i64.wrap (2 * (x + (i : Int))) = 2 * (x + (i : Int)) := by rw [IntKind.wrap_i64]; omega
      have d4 : IntKind.i64.wrap (2 * (y + (j : Int))) = 2 * (y + (j : Int)) := by rw [IntKind.wrap_i64]; omega
      have d5 : IntKind.i64.wrap (2 * (x + (i : Int)) + vx) = 2 * (x + (i : Int)) + vx := by rw [IntKind.wrap_i64]; omega
      have d6 : IntKind.i64.wrap (2 * (y + (j : Int)) + vy) = 2 * (y + (j : Int)) + vy := by rw [IntKind.wrap_i64]; omega
      have HS : Hid (mvF W H zs x y vx vy 4 k = halfV W H zs (2 * (x + (i : Int)) + vx) (2 * (y + (j : Int)) + vy)) := by show _ = _; rw [hi, hj]; rfl
      have A2 := Lib.hid (fun w h => A1.out w (2 * (x + (i : Int)) + vx) (2 * (y + (j : Int)) + vy) h (by omega) (by omega))
      obtain ⟨z, hz⟩ : ∃ z, z = halfV W H zs (2 * (x + (i : Int)) + vx) (2 * (y + (j : Int)) + vy) := ⟨_, rfl⟩
      rw [← hz] at HS A2
      have hD : Ext w2 wr.drew := hE.drew
      obtain ⟨p0, p1, p2⟩ := FC.out.ext hE
      obtain ⟨o0, o1⟩ := GC.out.ext hE
      obtain ⟨P0, P1, P2⟩ := FC.out.ext hD
      obtain ⟨O0, O1⟩ := GC.out.ext hD
      have HD := Lib.hid hD
      have lf : w.heap.size < w2.heap.size := Ext.lt FC.out.1
      have lv : w.heap.size + 1 < w2.heap.size := Ext.lt GC.out.1
      have hBB := hE.size
      clear hi hj hz hD
      go_wp2_with fail
      go_region_held3 (fun w' => w'.cell? ⟨w.heap.size, 0, none⟩ = some (.int .i64 W) ∧ w'.cell? ⟨w.heap.size, 1, none⟩ = some (.int .i64 H) ∧ w'.cell? ⟨w.heap.size, 2, none⟩ = some (.slice a n cap) ∧ w'.cell? ⟨w.heap.size + 1, 0, none⟩ = some (.int .i64 vx) ∧ w'.cell? ⟨w.heap.size + 1, 1, none⟩ = some (.int .i64 vy))
        (first | assumption | (exact ⟨P0, P1, P2, O0, O1⟩) | (exact ⟨Below.cellv h2 (HX5.out.cell P0) lf, Below.cellv h2 (HX5.out.cell P1) lf, Below.cellv h2 (HX5.out.cell P2) lf, Below.cellv h2 (HX5.out.cell O0) lv, Below.cellv h2 (HX5.out.cell O1) lv⟩) | (exact ⟨HX5.out.cell P0, HX5.out.cell P1, HX5.out.cell P2, HX5.out.cell O0, HX5.out.cell O1⟩) | go_keep)
        (first | (go_at_call 63; refine (A2.out _ (h.ext (E1.trans HD.out))).mono ?_; rintro e w5 ⟨rfl, hx⟩; have HX5 := Lib.hid hx; have HO5 := Lib.hid (own_ext (own_ext HO.out (Ext.refl wr).drew) hx); have hB5 := Nat.le_trans hBB hx.size) | (refine step_push0 (by rfl) _ _ 65 (by rfl) Tryd.underlying65 _ k _ z (by rfl) HO5.out (by rfl) hB5 (by omega) ?_; intro ng ncap w7 h1 h2 h3))
      have hE7 := (HD.out.trans HX5.out).of_below h2 (Nat.le_refl _)
      have HO7 := Lib.hid h1
      clear h1 h2 h3
      go_wp2
      go_roundw
      case rel => exact ⟨k + 1, by omega, by go_num, by show World.ownsRow _ _ _ _ _ _ _; rw [rowL_sn, HS.out]; exact HO7.out, hE7⟩
      case measure => simp [intOf]; omega
    · obtain rfl : k = 16 := by omega
      go_wp2
      go_ret
      exact ⟨_, rfl, E1.trans hE, Ints.of_row HO.out (by omega)⟩
set_option maxHeartbeats 4000000 in
set_option maxRecDepth 20000 in
theorem rblock_8 (W H x y vx vy : Int) (zs : List Int) (a : Option Addr) (n cap : Nat) (w : World) (h : Ints w (.slice a n cap) zs) (hm : may W H zs) (hv : vecB vx vy = true) (hx : 0 ≤ x ∧ x ≤ 32) (hy : 0 ≤ y ∧ y ≤ 32) :
    Calls Tryd.prog 43 #[.agg #[.int .i64 W, .int .i64 H, .slice a n cap], .int .i64 x, .int .i64 y, .int .i64 8, .agg #[.int .i64 vx, .int .i64 vy]] w fun e w' => ∃ u, e = .returned u ∧ Ext w w' ∧ Ints w' u (rowL 64 (mvF W H zs x y vx vy 8)) := by
  have B1 := Lib.hid (fun w => rvec_any vx vy w)
  have M1 := Lib.hid (fun w h => rmay_any W H zs a n cap w h)
  have A1 := Lib.hid (fun (w : World) (x y : Int) (h : Ints w (.slice a n cap) zs) b1 b2 => rhalf_any W H x y zs a n cap w h hm b1 b2)
  have H1 := Lib.hid hm
  have V1 := Lib.hid hv
  obtain ⟨v1, v2, v3, v4⟩ := vecB_true hv
  obtain ⟨hx1, hx2⟩ := hx
  obtain ⟨hy1, hy2⟩ := hy
  obtain ⟨F0, G0⟩ := FrBox.vec w W H vx vy (.slice a n cap)
  have E0 : Ext w ((w.alloc (.cells #[.int .i64 W, .int .i64 H, .slice a n cap] 67)).alloc (.cells #[.int .i64 vx, .int .i64 vy] 69)) := (by repeat (first | exact Ext.refl _ | assumption | refine Ext.alloc ?_ _ | refine Ext.drew ?_ | refine Ext.drewN ?_ _ | refine Ext.setCell ?_ (by first | exact Nat.le_refl _ | (simp; done) | omega) _ | refine Ext.trans ?_ (by assumption)))
  clear hm hv
  go_enter Tryd.func43, Tryd.ntmps43
  go_wp2_with fail
  revert F0 G0 E0
  generalize (w.alloc (.cells #[.int .i64 W, .int .i64 H, .slice a n cap] 67)).alloc (.cells #[.int .i64 vx, .int .i64 vy] 69) = w0
  intro F0 G0 E0
  have FB := Lib.hid F0
  have GB := Lib.hid G0
  clear F0 G0
  refine (M1.out _ (h.ext E0)).mono ?_; rintro e w1 ⟨rfl, hx1'⟩
  rw [decide_eq_true H1.out]
  obtain ⟨q0, q1⟩ := GB.out.ext hx1'
  go_wp2_with fail
  refine (B1.out _).mono ?_; rintro e w2 ⟨rfl, hx2'⟩
  rw [V1.out]
  have FC := Lib.hid (FB.out.ext (hx1'.trans hx2'))
  have GC := Lib.hid (GB.out.ext (hx1'.trans hx2'))
  have E1 := (E0.trans hx1').trans hx2'
  clear hx1' hx2' q0 q1 FB GB E0
  go_wp2_with fail
  go_loopw [11, 12] (fun bv kv wr => ∃ k : Nat, k ≤ 64 ∧ kv = .int .i64 k ∧ Hid (wr.ownsRow w2.heap.size 3 1 bv k ((rowL k (mvF W H zs x y vx vy 8)).map (Value.int .i64))) ∧ Ext w2 wr) (fun _ kv _ => 64 - (intOf kv).toNat)
  case atStart => exact ⟨0, Nat.zero_le _, rfl, World.ownsRow_nil _ _ _ _, Ext.refl _⟩
  case round =>
    obtain ⟨k, hk, rfl, HO, hE⟩ := hrel
    by_cases hlt : k < 64
    · obtain ⟨i, hi⟩ : ∃ i, i = k % 8 := ⟨_, rfl⟩
      obtain ⟨j, hj⟩ : ∃ j, j = k / 8 := ⟨_, rfl⟩
      have q2 : Int.tmod (k : Int) 8 = (i : Int) := by rw [hi]; exact Int.ofNat_tmod k 8
      have q2' : (k : Int) % 8 = (i : Int) := by rw [hi]; exact Int.natCast_emod k 8
      have q4 : Int.tdiv (k : Int) 8 = (j : Int) := by rw [hj]; exact Int.ofNat_tdiv k 8
      have q4' : (k : Int) / 8 = (j : Int) := by rw [hj]; exact Int.natCast_ediv k 8
      have hil : i < 8 := by omega
      have hjl : j < 8 := by omega
      have q8 : IntKind.i64.wrap (i : Int) = (i : Int) := by rw [IntKind.wrap_i64]; omega
      have q9 : IntKind.i64.wrap (j : Int) = (j : Int) := by rw [IntKind.wrap_i64]; omega
      have d1 : IntKind.i64.wrap (x + (i : Int)) = x + (i : Int) := by rw [IntKind.wrap_i64]; omega
      have d2 : IntKind.i64.wrap (y + (j : Int)) = y + (j : Int) := by rw [IntKind.wrap_i64]; omega
      have d3 : IntKind.i64.wrap (2 * (x + (i : Int))) = 2 * (x + (i : Int)) := by rw [IntKind.wrap_i64]; omega
      have d4 : IntKind.i64.wrap (2 * (y + (j : Int))) = 2 * (y + (j : Int)) := by rw [IntKind.wrap_i64]; omega
      have d5 : IntKind.i64.wrap (2 * (x + (i : Int)) + vx) = 2 * (x + (i : Int)) + vx := by rw [IntKind.wrap_i64]; omega
      have d6 : IntKind.i64.wrap (2 * (y + (j : Int)) + vy) = 2 * (y + (j : Int)) + vy := by rw [IntKind.wrap_i64]; omega
      have HS : Hid (mvF W H zs x y vx vy 8 k = halfV W H zs (2 * (x + (i : Int)) + vx) (2 * (y + (j : Int)) + vy)) := by show _ = _; rw [hi, hj]; rfl
      have A2 := Lib.hid (fun w h => A1.out w (2 * (x + (i : Int)) + vx) (2 * (y + (j : Int)) + vy) h (by omega) (by omega))
      obtain ⟨z, hz⟩ : ∃ z, z = halfV W H zs (2 * (x + (i : Int)) + vx) (2 * (y + (j : Int)) + vy) := ⟨_, rfl⟩
      rw [← hz] at HS A2
      have hD : Ext w2 wr.drew := hE.drew
      obtain ⟨p0, p1, p2⟩ := FC.out.ext hE
      obtain ⟨o0, o1⟩ := GC.out.ext hE
      obtain ⟨P0, P1, P2⟩ := FC.out.ext hD
      obtain ⟨O0, O1⟩ := GC.out.ext hD
      have HD := Lib.hid hD
      have lf : w.heap.size < w2.heap.size := Ext.lt FC.out.1
      have lv : w.heap.size + 1 < w2.heap.size := Ext.lt GC.out.1
      have hBB := hE.size
      clear hi hj hz hD
      go_wp2_with fail
      go_region_held3 (fun w' => w'.cell? ⟨w.heap.size, 0, none⟩ = some (.int .i64 W) ∧ w'.cell? ⟨w.heap.size, 1, none⟩ = some (.int .i64 H) ∧ w'.cell? ⟨w.heap.size, 2, none⟩ = some (.slice a n cap) ∧ w'.cell? ⟨w.heap.size + 1, 0, none⟩ = some (.int .i64 vx) ∧ w'.cell? ⟨w.heap.size + 1, 1, none⟩ = some (.int .i64 vy))
        (first | assumption | (exact ⟨P0, P1, P2, O0, O1⟩) | (exact ⟨Below.cellv h2 (HX5.out.cell P0) lf, Below.cellv h2 (HX5.out.cell P1) lf, Below.cellv h2 (HX5.out.cell P2) lf, Below.cellv h2 (HX5.out.cell O0) lv, Below.cellv h2 (HX5.out.cell O1) lv⟩) | (exact ⟨HX5.out.cell P0, HX5.out.cell P1, HX5.out.cell P2, HX5.out.cell O0, HX5.out.cell O1⟩) | go_keep)
        (first | (go_at_call 63; refine (A2.out _ (h.ext (E1.trans HD.out))).mono ?_; rintro e w5 ⟨rfl, hx⟩; have HX5 := Lib.hid hx; have HO5 := Lib.hid (own_ext (own_ext HO.out (Ext.refl wr).drew) hx); have hB5 := Nat.le_trans hBB hx.size) | (refine step_push0 (by rfl) _ _ 65 (by rfl) Tryd.underlying65 _ k _ z (by rfl) HO5.out (by rfl) hB5 (by omega) ?_; intro ng ncap w7 h1 h2 h3))
      have hE7 := (HD.out.trans HX5.out).of_below h2 (Nat.le_refl _)
      have HO7 := Lib.hid h1
      clear h1 h2 h3
      go_wp2
      go_roundw
      case rel => exact ⟨k + 1, by omega, by go_num, by show World.ownsRow _ _ _ _ _ _ _; rw [rowL_sn, HS.out]; exact HO7.out, hE7⟩
      case measure => simp [intOf]; omega
    · obtain rfl : k = 64 := by omega
      go_wp2
      go_ret
      exact ⟨_, rfl, E1.trans hE, Ints.of_row HO.out (by omega)⟩
end Go.Proofs.YtaamnpbhmckpbaaDoor
