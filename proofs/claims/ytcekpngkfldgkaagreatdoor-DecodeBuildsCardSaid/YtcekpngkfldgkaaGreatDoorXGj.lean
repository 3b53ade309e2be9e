/- Contracts of this seat: CpO, RPut, R7b, R7c, Unl, Fms. -/
import Derived.Test.YtcekpngkfldgkaaGreatDoorXTk
import Derived.Test.YtcekpngkfldgkaaGreatDoorXGa
import Derived.Test.YtcekpngkfldgkaaGreatDoorXGb
import Derived.BigRegion
import Derived.Test.YtcekpngkfldgkaaGreatDoorXGg
import Derived.StillTailTactics
import Derived.Deep.RegionWith
namespace Go.Proofs.YtcekpngkfldgkaaGreatDoor
set_option linter.unusedVariables false
set_option linter.unusedSimpArgs false
open Go.RowKit Go.Extern.Stop Go.Stop Go.Extern
set_option maxRecDepth 20000 in
set_option maxHeartbeats 2000000 in
theorem copy_frame_own (W H : Int) (zs : List Int) (a : Option Addr) (n cap : Nat) (w : World) (h : Ints w (.slice a n cap) zs) (hl : zs.length ≤ 1000000) :
 Calls Tryz.prog 12 #[.agg #[.int .i64 W, .int .i64 H, .slice a n cap]] w fun e w' => ∃ u, e = .returned (.agg #[.int .i64 W, .int .i64 H, u]) ∧ w'.ownsRow w.heap.size 3 1 u zs.length (zs.map (Value.int .i64)) ∧ Ext w w' := by
 have C1 := Lib.hid (fun v W k => copy_own zs v W k hl)
 have A1 : Ext w (w.alloc (.cells #[.int .i64 W, .int .i64 H, .slice a n cap] 24)) := (Ext.refl w).alloc _
 have R1 := FrAt.new (w.alloc (.cells #[.int .i64 W, .int .i64 H, .slice a n cap] 24))
 rw [show (w.alloc (.cells #[.int .i64 W, .int .i64 H, .slice a n cap] 24)).heap.size = w.heap.size + 1 by simp] at R1
 have p0 : ((w.alloc (.cells #[.int .i64 W, .int .i64 H, .slice a n cap] 24)).alloc (.cells #[.int .i64 0, .int .i64 0, .slice none 0 0] 24)).cell? ⟨w.heap.size, 0, none⟩ = some (.int .i64 W) := ((Ext.refl _).alloc _).cell (by simp)
 have p1 : ((w.alloc (.cells #[.int .i64 W, .int .i64 H, .slice a n cap] 24)).alloc (.cells #[.int .i64 0, .int .i64 0, .slice none 0 0] 24)).cell? ⟨w.heap.size, 1, none⟩ = some (.int .i64 H) := ((Ext.refl _).alloc _).cell (by simp)
 have p2 : ((w.alloc (.cells #[.int .i64 W, .int .i64 H, .slice a n cap] 24)).alloc (.cells #[.int .i64 0, .int .i64 0, .slice none 0 0] 24)).cell? ⟨w.heap.size, 2, none⟩ = some (.slice a n cap) := ((Ext.refl _).alloc _).cell (by simp)
 have E1 : Ext w ((w.alloc (.cells #[.int .i64 W, .int .i64 H, .slice a n cap] 24)).alloc (.cells #[.int .i64 0, .int .i64 0, .slice none 0 0] 24)) := A1.alloc _
 clear A1
 go_enter Tryz.func12, Tryz.ntmps12
 go_wp2_with fail
 revert R1 p0 p1 p2 E1
 generalize (w.alloc (.cells #[.int .i64 W, .int .i64 H, .slice a n cap] 24)).alloc (.cells #[.int .i64 0, .int .i64 0, .slice none 0 0] 24) = wA
 intro R1 p0 p1 p2 E1
 have RW := Lib.hid R1
 clear R1
 go_region_with ((go_at_call 32; refine (C1.out _ _ (h.ext (by repeat (first | exact Ext.refl _ | assumption | refine Ext.alloc ?_ _ | refine Ext.drew ?_ | refine Ext.drewN ?_ _ | refine Ext.setCell ?_ (by first | exact Nat.le_refl _ | (simp; done) | omega) _ | refine Ext.trans ?_ (by assumption))))).mono ?_; rintro e w9 ⟨u9, rfl, hz9, hx9⟩; have s0 := hx9.cell (show wA.drew.cell? _ = _ from p0); have s1 := hx9.cell (show wA.drew.cell? _ = _ from p1); have s2 := hx9.cell (show wA.drew.cell? _ = _ from p2); have RB := FrAt.ext (show FrAt wA.drew _ from RW.out) hx9; obtain ⟨⟨b0, b1, b2⟩, f0, f1, f2⟩ := RB; obtain ⟨a9, c9, rfl⟩ := (Ints.of_owns hz9 (by omega)).form))
 all_goals
  have hsz : w.heap.size + 1 < wA.drew.heap.size := Ext.lt RW.out.1.1
  have ho := ownsRow_setCell_below (ownsRow_setCell_below (ownsRow_setCell_below hz9 (a := ⟨w.heap.size + 1, 0, none⟩) hsz (.int .i64 W)) (a := ⟨w.heap.size + 1, 1, none⟩) hsz (.int .i64 H)) (a := ⟨w.heap.size + 1, 2, none⟩) hsz (.slice a9 zs.length c9)
  have E9 : Ext w w9 := (by repeat (first | exact Ext.refl _ | assumption | refine Ext.alloc ?_ _ | refine Ext.drew ?_ | refine Ext.drewN ?_ _ | refine Ext.setCell ?_ (by first | exact Nat.le_refl _ | (simp; done) | omega) _ | refine Ext.trans ?_ (by assumption)))
  go_wp2
  obtain ⟨g0, g1, g2⟩ := fr_cells W H (.slice a9 zs.length c9) b0 b1 b2
  exact bodyPost_ret (v := .agg #[.int .i64 W, .int .i64 H, .slice a9 zs.length c9]) (by simp [results, Tryz.results12, go_sem, g0, g1, g2]) rfl ⟨_, rfl, own_mono ho (by omega), ((E9.setCell (by simp) _).setCell (by simp) _).setCell (by simp) _⟩
theorem FrHas.same {w w' : World} {B : Nat} {W H : Int} {v : Value} (h : FrHas w B W H v) (k : w'.heap[B]? = w.heap[B]?) : FrHas w' B W H v := by
 obtain ⟨⟨h0, h1, h2⟩, f0, f1, f2⟩ := h
 exact ⟨⟨(World.cell?_of_block (a := ⟨B, 0, none⟩) k).trans h0, (World.cell?_of_block (a := ⟨B, 1, none⟩) k).trans h1, (World.cell?_of_block (a := ⟨B, 2, none⟩) k).trans h2⟩, (World.frozen?_of_block (a := ⟨B, 0, none⟩) k).trans f0, (World.frozen?_of_block (a := ⟨B, 1, none⟩) k).trans f1, (World.frozen?_of_block (a := ⟨B, 2, none⟩) k).trans f2⟩
theorem ResAt.same {w w' : World} {B : Nat} (h : ResAt w B) (k : w'.heap[B]? = w.heap[B]?) : ResAt w' B := by
 obtain ⟨h0, h1, f0, f1⟩ := h
 exact ⟨(World.cell?_of_block (a := ⟨B, 0, none⟩) k).trans h0, (World.cell?_of_block (a := ⟨B, 1, none⟩) k).trans h1, (World.frozen?_of_block (a := ⟨B, 0, none⟩) k).trans f0, (World.frozen?_of_block (a := ⟨B, 1, none⟩) k).trans f1⟩
theorem own_addr {w : World} {base n : Nat} {e : TypeId} {s : Nat} {v : Value} {xs : List Value} (h : w.ownsRow base e s v n xs) (hn : 0 < n) : ∃ g cap, v = .slice (some ⟨g, 0, none⟩) n cap ∧ base ≤ g ∧ g < w.heap.size := by
 obtain ⟨hl, h'⟩ := id h
 rcases h' with ⟨h1, h2⟩ | ⟨g, cap, cur, e, -⟩
 · omega
 · obtain ⟨h3, h4⟩ := h.lt g (by rw [e]; rfl)
   exact ⟨g, cap, e, h3, h4⟩
theorem rowL_succb (k : Nat) (f : Nat → Int) : rowL (k + 1) f = rowL k f ++ [f k] := by
 unfold rowL
 rw [List.range_succ, List.map_append]
 rfl
set_option maxRecDepth 20000 in
set_option maxHeartbeats 2000000 in
theorem rclip7_any (xs ys : List Int) (v u : Value) (w : World) (ha : Ints w v xs) (hb : Ints w u ys) (hl : xs.length = ys.length) (hN : xs.length ≤ 1000000) (hX : ∀ j, -1073741824 ≤ xs.getD j 0 ∧ xs.getD j 0 ≤ 1073741824) (hY : ∀ j, -1073741824 ≤ ys.getD j 0 ∧ ys.getD j 0 ≤ 1073741824) :
 Calls Tryz.prog 68 #[v, u] w fun e w' => ∃ u, e = .returned u ∧ Ext w w' ∧ w'.ownsRow w.heap.size 3 1 u xs.length ((rowL xs.length fun i => addF (xs.getD i 0) (ys.getD i 0)).map (Value.int .i64)) := by
 obtain ⟨a, cap, rfl⟩ := ha.form
 obtain ⟨b, cap', rfl⟩ := hb.form
 obtain ⟨n, hn⟩ : ∃ n, n = xs.length := ⟨_, rfl⟩
 rw [← hn] at ha hN hl ⊢
 rw [← hl] at hb ⊢
 have AG := Lib.hid ha.had
 have BG := Lib.hid hb.had
 have HN := Lib.hid hn
 have HL := Lib.hid hl
 have HX := Lib.hid hX
 have HY := Lib.hid hY
 clear hl hX hY hn
 go_enter Tryz.func68, Tryz.ntmps68
 go_wp2
 go_loopw [5, 6] (fun sv iv wr => ∃ k : Nat, k ≤ n ∧ iv = .int .i64 k ∧ Hid (wr.ownsRow w.heap.size 3 1 sv k ((rowL k fun i => addF (xs.getD i 0) (ys.getD i 0)).map (Value.int .i64))) ∧ Ext w wr) (fun _ iv _ => n - (intOf iv).toNat)
 case atStart => exact ⟨0, Nat.zero_le _, rfl, World.ownsRow_nil _ _ _ _, Ext.refl _⟩
 case round =>
  obtain ⟨k, hk, rfl, HO, hE⟩ := hrel
  have hBB := hE.size
  by_cases hlt : k < n
  · obtain ⟨x, hx'⟩ : ∃ x, xs.getD k 0 = x := ⟨_, rfl⟩
    obtain ⟨y, hy'⟩ : ∃ y, ys.getD k 0 = y := ⟨_, rfl⟩
    obtain ⟨g, off, rfl⟩ := AG.out (by omega)
    obtain ⟨g', off', rfl⟩ := BG.out (by omega)
    have cx := hE.cell (ha.at (get_of_lt (by rw [← HN.out]; exact hlt)))
    have cy := hE.cell (hb.at (get_of_lt (by rw [← HL.out]; exact hlt)))
    have lx : g < w.heap.size := Ext.lt (ha.at (get_of_lt (by rw [← HN.out]; exact hlt)))
    have ly : g' < w.heap.size := Ext.lt (hb.at (get_of_lt (by rw [← HL.out]; exact hlt)))
    have bx := HX.out k
    have by' := HY.out k
    rw [hx'] at cx bx
    rw [hy'] at cy by'
    obtain ⟨z, hz⟩ : ∃ z, clipI (x + y) = z := ⟨_, rfl⟩
    have HF := Lib.hid (fun W => rclip_any (x + y) W)
    rw [hz] at HF
    have HS : Hid ((rowL (k + 1) fun i => addF (xs.getD i 0) (ys.getD i 0)).map (Value.int .i64) = (rowL k fun i => addF (xs.getD i 0) (ys.getD i 0)).map (Value.int .i64) ++ [.int .i64 z]) := by
     show _ = _
     rw [rowL_succb, List.map_append, hx', hy', ← hz]
     rfl
    clear hx' hy' hz
    have e1 : IntKind.i64.wrap (x + y) = x + y := by rw [IntKind.wrap_i64]; omega
    go_wp2
    go_region_held3 (fun w' => w'.cell? ⟨g, off + k, none⟩ = some (.int .i64 x) ∧ w'.cell? ⟨g', off' + k, none⟩ = some (.int .i64 y))
     (first | go_keep | (exact ⟨Below.cellv h2 cx lx, Below.cellv h2 cy ly⟩))
     (first | (go_at_call 100; refine (HF.out _).mono ?_; rintro e w' ⟨rfl, rfl⟩) | (refine step_push (by rfl) _ _ 22 (by rfl) Tryz.underlying22 _ k _ z (by rfl) HO.out (by rfl) hBB (by omega) ?_; intro ng ncap w7 h1 h2 h3))
    have hE7 := hE.of_below h2 (Nat.le_refl _)
    have HO7 := Lib.hid h1
    clear h1 h2 h3
    go_wp2
    go_roundw
    case rel => exact ⟨k + 1, by omega, by go_num, by show World.ownsRow _ _ _ _ _ _ _; rw [HS.out]; exact HO7.out, hE7⟩
    case measure => simp [intOf]; omega
  · obtain rfl : k = n := by omega
    go_wp2
    go_ret
    exact ⟨_, rfl, hE, HO.out⟩
abbrev Fr := Int × Int × List Int
def FrIn (w : World) (g i : Nat) (f : Fr) : Prop := ∃ ra rn rc, w.cell? ⟨g, i, none⟩ = some (.int .i64 f.1) ∧ w.cell? ⟨g, i + 1, none⟩ = some (.int .i64 f.2.1) ∧ w.cell? ⟨g, i + 2, none⟩ = some (.slice ra rn rc) ∧ Row w (.slice ra rn rc) f.2.2.length (f.2.2.map (Value.int .i64))
def Fms (w : World) (v : Value) (L : List Fr) : Prop := ∃ (a : Option Addr) (cap : Nat), v = .slice a L.length cap ∧ (0 < L.length → ∃ g off, a = some ⟨g, off, none⟩ ∧ ∀ q f, L[q]? = some f → FrIn w g (off + q * 3) f)
theorem FrIn.ext {w w' : World} {g i : Nat} {f : Fr} (h : FrIn w g i f) (k : Ext w w') : FrIn w' g i f := by
 obtain ⟨ra, rn, rc, h0, h1, h2, h3⟩ := h
 exact ⟨ra, rn, rc, k.cell h0, k.cell h1, k.cell h2, h3.ext k⟩
theorem Fms.form {w : World} {v : Value} {L : List Fr} (h : Fms w v L) : ∃ a cap, v = .slice a L.length cap := by
 obtain ⟨a, cap, h0, _⟩ := h
 exact ⟨a, cap, h0⟩
theorem Fms.len {w : World} {a : Option Addr} {n cap : Nat} {L : List Fr} (h : Fms w (.slice a n cap) L) : n = L.length := by
 obtain ⟨a', cap', e, _⟩ := h
 simp only [Value.slice.injEq] at e
 exact e.2.1
theorem Fms.had {w : World} {a : Option Addr} {n cap : Nat} {L : List Fr} (h : Fms w (.slice a n cap) L) (hn : 0 < n) : ∃ g off, a = some ⟨g, off, none⟩ := by
 have hl := h.len
 obtain ⟨a', cap', e, h3⟩ := h
 simp only [Value.slice.injEq] at e
 obtain ⟨rfl, -, rfl⟩ := e
 obtain ⟨g, off, e, _⟩ := h3 (by omega)
 exact ⟨g, off, e⟩
theorem Fms.at {w : World} {g off n cap : Nat} {L : List Fr} (h : Fms w (.slice (some ⟨g, off, none⟩) n cap) L) {q : Nat} {f : Fr} (hq : L[q]? = some f) : FrIn w g (off + q * 3) f := by
 have hl := h.len
 obtain ⟨a', cap', e, h3⟩ := h
 simp only [Value.slice.injEq] at e
 obtain ⟨rfl, -, rfl⟩ := e
 obtain ⟨hj, -⟩ := List.getElem?_eq_some_iff.1 hq
 obtain ⟨g', off', e, h4⟩ := h3 (by omega)
 obtain ⟨rfl, rfl⟩ : g = g' ∧ off = off' := by simpa using e
 exact h4 q f hq
def pixN (L : List Fr) : Nat → Int
 | 0 => 0
 | k + 1 => pixN L k + min (((L.getD k (0, 0, [])).2.2.length : Nat) : Int) 20001
theorem pixN_bound (L : List Fr) (k : Nat) : 0 ≤ pixN L k ∧ pixN L k ≤ 20001 * k := by
 induction k with
 | zero => simp [pixN]
 | succ k ih => unfold pixN; push_cast; omega
def pixB (L : List Fr) : Bool := decide (L.length ≤ 40) && decide (pixN L (min L.length 40) ≤ 20000)
set_option maxRecDepth 20000 in
set_option maxHeartbeats 2000000 in
theorem pix_any (L : List Fr) (v : Value) (w : World) (h : Fms w v L) (hl : L.length ≤ 1000000) :
 Calls Tryz.prog 10 #[v] w fun e w' => e = .returned (.bool (pixB L)) ∧ Ext w w' := by
 obtain ⟨a, cap, rfl⟩ := h.form
 obtain ⟨n, hn⟩ : ∃ n, n = L.length := ⟨_, rfl⟩
 have HN := Lib.hid hn
 rw [← hn] at h hl ⊢
 have AG := Lib.hid h.had
 clear hn
 have r2 := mn2
 go_enter Tryz.func10, Tryz.ntmps10
 go_wp2
 go_loopw [3, 4] (fun sv iv wr => ∃ k : Nat, k ≤ n ∧ k ≤ 40 ∧ iv = .int .i64 k ∧ sv = .int .i64 (pixN L k) ∧ Ext w wr) (fun _ iv _ => n - (intOf iv).toNat)
 case atStart => exact ⟨0, Nat.zero_le _, by omega, rfl, rfl, Ext.refl _⟩
 case round =>
  obtain ⟨k, hk, hk2, rfl, rfl, hE⟩ := hrel
  have b0 := pixN_bound L k
  by_cases hlt : k < n
  · by_cases h40 : k < 40
    · obtain ⟨g, off, rfl⟩ := AG.out (by omega)
      obtain ⟨f, hf⟩ : ∃ f, L[k]? = some f := ⟨_, List.getElem?_eq_getElem (by rw [← HN.out]; exact hlt)⟩
      obtain ⟨ra, rn, rc, c0, c1, c2, c3⟩ := (h.at hf).ext hE
      obtain ⟨ra', rc', e⟩ := c3.form
      simp only [Value.slice.injEq] at e
      obtain ⟨rfl, rfl, rfl⟩ := e
      have HS : Hid (pixN L (k + 1) = pixN L k + min ((f.2.2.length : Nat) : Int) 20001) := by show pixN L k + _ = _; rw [List.getD, hf]; rfl
      have bl : (0 : Int) ≤ (f.2.2.length : Int) := by omega
      clear c3 hf
      revert HS b0 c2 bl
      generalize pixN L k = s
      generalize f.2.2.length = m
      intro b0 c2 HS bl
      have e1 : IntKind.i64.wrap (s + min (m : Int) 20001) = s + min (m : Int) 20001 := by rw [IntKind.wrap_i64]; omega
      go_wp2
      go_roundw
      case rel => exact ⟨k + 1, by omega, by omega, by go_num, by rw [HS.out], hE⟩
      case measure => simp [intOf]; omega
    · have h41 : ¬ n ≤ 40 := by omega
      have HR : Hid (pixB L = false) := by show _ = _; unfold pixB; rw [← HN.out]; simp [h41]
      have k1 : (40 : Int) < (n : Int) := by omega
      clear h41 b0
      go_wp2
      go_ret
      exact ⟨by rw [HR.out]; rfl, hE⟩
  · have h41 : n ≤ 40 := by omega
    have HR : Hid (pixB L = decide (pixN L k ≤ 20000)) := by show _ = _; unfold pixB; rw [← HN.out, show min n 40 = k by omega]; simp [h41]
    have k1 : (n : Int) ≤ 40 := by omega
    revert HR b0
    generalize pixN L k = s
    intro b0 HR
    clear h41
    by_cases hs : s ≤ 20000
    · have t1 : decide (s ≤ 20000) = true := decide_eq_true hs
      go_wp2
      go_ret
      exact ⟨by rw [HR.out, t1]; rfl, hE⟩
    · have t1 : decide (s ≤ 20000) = false := decide_eq_false hs
      go_wp2
      go_ret
      exact ⟨by rw [HR.out, t1]; rfl, hE⟩
end Go.Proofs.YtcekpngkfldgkaaGreatDoor