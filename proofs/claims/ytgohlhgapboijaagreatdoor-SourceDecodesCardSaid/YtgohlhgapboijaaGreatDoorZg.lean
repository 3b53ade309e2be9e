/- Contracts of this seat: Res, TwF, RFr, Unl, Fms, PlN, RNew. -/
import Derived.Test.YtgohlhgapboijaaGreatDoorZb
import Derived.Test.YtgohlhgapboijaaGreatDoorZc
import Derived.BigRegion
/- A result of type kinref.Err, kept in a variable of the call's own. -/
namespace Go.Proofs.YtgohlhgapboijaaGreatDoor
set_option linter.unusedVariables false
set_option linter.unusedSimpArgs false
open Go.RowKit Go.Extern.Stop Go.Stop Go.Extern
theorem res_cells {w : World} {B : Nat} {c : Int} (h0 : w.cell? ⟨B, 0, none⟩ = some (.int .i64 0)) (h1 : w.cell? ⟨B, 1, none⟩ = some (.slice none 0 0)) (v : Value) :
    ((w.setCell ⟨B, 0, none⟩ (.int .i64 c)).setCell ⟨B, 1, none⟩ v).cell? ⟨B, 0, none⟩ = some (.int .i64 c) ∧ ((w.setCell ⟨B, 0, none⟩ (.int .i64 c)).setCell ⟨B, 1, none⟩ v).cell? ⟨B, 1, none⟩ = some v := by
  have e0 := World.cell?_setCell_same _ _ (.int .i64 c) h0
  have e1 := (World.cell?_setCell_other w ⟨B, 0, none⟩ ⟨B, 1, none⟩ (.int .i64 c) (by simp)).trans h1
  have e2 := World.cell?_setCell_same _ _ v e1
  have e3 := (World.cell?_setCell_other (w.setCell ⟨B, 0, none⟩ (.int .i64 c)) ⟨B, 1, none⟩ ⟨B, 0, none⟩ v (by simp)).trans e0
  exact ⟨e3, e2⟩
/-- what such a variable holds behind calls -/
def ResAt (w : World) (B : Nat) : Prop := w.cell? ⟨B, 0, none⟩ = some (.int .i64 0) ∧ w.cell? ⟨B, 1, none⟩ = some (.slice none 0 0) ∧ w.frozen? ⟨B, 0, none⟩ = false ∧ w.frozen? ⟨B, 1, none⟩ = false
theorem ResAt.ext {w w' : World} {B : Nat} (h : ResAt w B) (k : Ext w w') : ResAt w' B := by
  obtain ⟨h0, h1, h2, h3⟩ := h
  exact ⟨k.cell h0, k.cell h1, (Below.frozen k (Ext.lt h0)).trans h2, (Below.frozen k (Ext.lt h1)).trans h3⟩
theorem ResAt.new (w : World) : ResAt (w.alloc (.cells #[.int .i64 0, .slice none 0 0] 34)) w.heap.size := by
  refine ⟨?_, ?_, ?_, ?_⟩ <;> simp
theorem ResAt.under {B b : Nat} {w w' : World} (h : ResAt w b) (k : Below B w w') (hb : b < B) : ResAt w' b := by
  obtain ⟨h0, h1, h2, h3⟩ := h
  exact ⟨(Below.cell k (p := ⟨b, 0, none⟩) hb).trans h0, (Below.cell k (p := ⟨b, 1, none⟩) hb).trans h1, (Below.frozen k (p := ⟨b, 0, none⟩) hb).trans h2, (Below.frozen k (p := ⟨b, 1, none⟩) hb).trans h3⟩
end Go.Proofs.YtgohlhgapboijaaGreatDoor

/- Two frames in the boxes of a law: their cells. -/
namespace Go.Proofs.YtgohlhgapboijaaGreatDoor
set_option linter.unusedVariables false
set_option linter.unusedSimpArgs false
open Go.RowKit Go.Extern.Stop Go.Stop Go.Extern

/-- a frame's three cells -/
def FrBox (w : World) (b : Nat) (W H : Int) (v : Value) : Prop := w.cell? ⟨b, 0, none⟩ = some (.int .i64 W) ∧ w.cell? ⟨b, 1, none⟩ = some (.int .i64 H) ∧ w.cell? ⟨b, 2, none⟩ = some v
theorem FrBox.ext {w w' : World} {b : Nat} {W H : Int} {v : Value} (h : FrBox w b W H v) (k : Ext w w') : FrBox w' b W H v := ⟨k.cell h.1, k.cell h.2.1, k.cell h.2.2⟩
theorem FrBox.new (w : World) (W H : Int) (v : Value) : FrBox (w.alloc (.cells #[.int .i64 W, .int .i64 H, v] 48)) w.heap.size W H v := ⟨by simp, by simp, by simp⟩
theorem FrBox.two (w : World) (W H W' H' : Int) (v v' : Value) :
    FrBox ((w.alloc (.cells #[.int .i64 W, .int .i64 H, v] 48)).alloc (.cells #[.int .i64 W', .int .i64 H', v'] 48)) w.heap.size W H v ∧
    FrBox ((w.alloc (.cells #[.int .i64 W, .int .i64 H, v] 48)).alloc (.cells #[.int .i64 W', .int .i64 H', v'] 48)) (w.heap.size + 1) W' H' v' := by
  refine ⟨(FrBox.new w W H v).ext ((Ext.refl _).alloc _), ?_⟩
  have := FrBox.new (w.alloc (.cells #[.int .i64 W, .int .i64 H, v] 48)) W' H' v'
  simpa using this
end Go.Proofs.YtgohlhgapboijaaGreatDoor

/- kinref6.both, Sum, Peak: contracts over this seat's translation. -/
namespace Go.Proofs.YtgohlhgapboijaaGreatDoor
set_option linter.unusedVariables false
set_option linter.unusedSimpArgs false
open Go.RowKit Go.Extern.Stop Go.Stop Go.Extern

theorem rfall_plain {w : World} {p : List (ByteArray × Int)} {k c : Int} (h : RErrIs w (some (p, k)) c (.slice none 0 0)) : p = [] ∧ c = k ∧ k ≠ 0 := by
  obtain ⟨h1, h2, h3⟩ := h
  obtain ⟨a, cap, e⟩ := h3.form
  simp only [Value.slice.injEq] at e
  exact ⟨List.eq_nil_of_length_eq_zero e.2.1.symm, h1, h2⟩
/-- the document's error, with no path -/
def BPost (w : World) (f : Fall) (e : Ending) (w' : World) : Prop := ∃ c, e = .returned (.agg #[.int .i64 c, .slice none 0 0]) ∧ Ext w w' ∧ RErrIs w' f c (.slice none 0 0)
end Go.Proofs.YtgohlhgapboijaaGreatDoor

/- scene.Unlike, kinref16.Unlike: contracts over this seat's translation. -/
namespace Go.Proofs.YtgohlhgapboijaaGreatDoor
set_option linter.unusedVariables false
set_option linter.unusedSimpArgs false
open Go.RowKit Go.Extern.Stop Go.Stop Go.Extern

/-- how unlike two frames are, per 64 samples -/
def unlV (W H : Int) (xs : List Int) (W' H' : Int) (ys : List Int) : Int := match frAns W H xs W' H' ys with
  | none => Int.tdiv (64 * sumV W H xs W' H' ys) (W * H)
  | some _ => 0
theorem sum_small {W H W' H' : Int} {xs ys : List Int} (h : frAns W H xs W' H' ys = none) : 0 ≤ sumV W H xs W' H' ys ∧ sumV W H xs W' H' ys ≤ 255 * (W * H) ∧ 64 ≤ W * H ∧ W * H ≤ 1024 := by
  have e2 : sumV W H xs W' H' ys = sadF (fun i => xs.getD i 0) (fun i => ys.getD i 0) xs.length := by unfold sumV; rw [h]
  obtain ⟨h1, h2, -, -⟩ := frAns_none h
  have b1 := sadF_le (may_getD h1) (may_getD h2) xs.length
  rw [h1.2.2.1] at b1
  rw [e2]
  exact ⟨sadF_pos _ _ _, b1, may_area h1⟩
theorem unl_small {s A : Int} (h0 : 0 ≤ s) (h1 : s ≤ 255 * A) (h2 : 64 ≤ A) : 0 ≤ Int.tdiv (64 * s) A ∧ Int.tdiv (64 * s) A ≤ 16320 := by
  rw [Int.tdiv_eq_ediv_of_nonneg (by omega)]
  refine ⟨Int.ediv_nonneg (by omega) (by omega), ?_⟩
  have : 64 * s ≤ 16320 * A := by omega
  exact Int.ediv_le_of_le_mul (by omega) this
theorem Row.zero {w w' : World} {v : Value} (h : Row w v 0 []) : Row w' v 0 [] := by
  obtain ⟨a, cap, h0, h1, h2, h3, -⟩ := h
  exact ⟨a, cap, h0, h1, h2, h3, fun _ _ _ j u hu => by simp at hu⟩
theorem frAns_path {W H W' H' : Int} {xs ys : List Int} {f : List (ByteArray × Int) × Int} (h : frAns W H xs W' H' ys = some f) : f.1 = [] := by
  unfold frAns form fit at h
  split at h
  · split at h
    · cases h
    · cases h; rfl
  · cases h; rfl
end Go.Proofs.YtgohlhgapboijaaGreatDoor

/- Lists of frames; kinlaw16.Pix: contracts over this seat's translation. -/
namespace Go.Proofs.YtgohlhgapboijaaGreatDoor
set_option linter.unusedVariables false
set_option linter.unusedSimpArgs false
open Go.RowKit Go.Extern.Stop Go.Stop Go.Extern

abbrev Fr := Int × Int × List Int
/-- a frame's cells in a list -/
def FrIn (w : World) (g i : Nat) (f : Fr) : Prop := ∃ ra rn rc, w.cell? ⟨g, i, none⟩ = some (.int .i64 f.1) ∧ w.cell? ⟨g, i + 1, none⟩ = some (.int .i64 f.2.1) ∧ w.cell? ⟨g, i + 2, none⟩ = some (.slice ra rn rc) ∧ Row w (.slice ra rn rc) f.2.2.length (f.2.2.map (Value.int .i64))
/-- a slice value that reads as these frames -/
def Fms (w : World) (v : Value) (L : List Fr) : Prop := ∃ (a : Option Addr) (cap : Nat), v = .slice a L.length cap ∧ (0 < L.length → ∃ g off, a = some ⟨g, off, none⟩ ∧ ∀ q f, L[q]? = some f → FrIn w g (off + q * 3) f)
theorem FrIn.ext {w w' : World} {g i : Nat} {f : Fr} (h : FrIn w g i f) (k : Ext w w') : FrIn w' g i f := by
  obtain ⟨ra, rn, rc, h0, h1, h2, h3⟩ := h
  exact ⟨ra, rn, rc, k.cell h0, k.cell h1, k.cell h2, h3.ext k⟩
theorem Fms.ext {w w' : World} {v : Value} {L : List Fr} (h : Fms w v L) (k : Ext w w') : Fms w' v L := by
  obtain ⟨a, cap, h0, h1⟩ := h
  refine ⟨a, cap, h0, fun hl => ?_⟩
  obtain ⟨g, off, e, h2⟩ := h1 hl
  exact ⟨g, off, e, fun q f hq => (h2 q f hq).ext k⟩
theorem Fms.form {w : World} {v : Value} {L : List Fr} (h : Fms w v L) : ∃ a cap, v = .slice a L.length cap := by
  obtain ⟨a, cap, h0, _⟩ := h
  exact ⟨a, cap, h0⟩
theorem Fms.nil (w : World) : Fms w (.slice none 0 0) [] := ⟨none, 0, rfl, fun h => absurd h (Nat.lt_irrefl _)⟩
theorem Fms.len {w : World} {a : Option Addr} {n cap : Nat} {L : List Fr} (h : Fms w (.slice a n cap) L) : n = L.length := by
  obtain ⟨a', cap', e, _⟩ := h
  simp only [Value.slice.injEq] at e
  exact e.2.1
theorem Fms.had {w : World} {a : Option Addr} {n cap : Nat} {L : List Fr} (h : Fms w (.slice a n cap) L) (hn : 0 < n) : ∃ g off, a = some ⟨g, off, none⟩ := by
  have hl := h.len
  obtain ⟨a', cap', e, h3⟩ := h
  simp only [Value.slice.injEq] at e
  obtain ⟨rfl, -, rfl⟩ := e
  obtain ⟨g, off, e, _⟩ := h3 (by omega)
  exact ⟨g, off, e⟩
theorem Fms.at {w : World} {g off n cap : Nat} {L : List Fr} (h : Fms w (.slice (some ⟨g, off, none⟩) n cap) L) {q : Nat} {f : Fr} (hq : L[q]? = some f) : FrIn w g (off + q * 3) f := by
  have hl := h.len
  obtain ⟨a', cap', e, h3⟩ := h
  simp only [Value.slice.injEq] at e
  obtain ⟨rfl, -, rfl⟩ := e
  obtain ⟨hj, -⟩ := List.getElem?_eq_some_iff.1 hq
  obtain ⟨g', off', e, h4⟩ := h3 (by omega)
  obtain ⟨rfl, rfl⟩ : g = g' ∧ off = off' := by simpa using e
  exact h4 q f hq
/-- the samples of the first k frames, as Pix counts them -/
def pixN (L : List Fr) : Nat → Int
  | 0 => 0
  | k + 1 => pixN L k + min (((L.getD k (0, 0, [])).2.2.length : Nat) : Int) 20001
theorem pixN_bound (L : List Fr) (k : Nat) : 0 ≤ pixN L k ∧ pixN L k ≤ 20001 * k := by
  induction k with
  | zero => simp [pixN]
  | succ k ih => unfold pixN; push_cast; omega
def pixB (L : List Fr) : Bool := decide (L.length ≤ 40) && decide (pixN L (min L.length 40) ≤ 20000)
end Go.Proofs.YtgohlhgapboijaaGreatDoor

/- plane.New: its contract over this seat's translation. -/
namespace Go.Proofs.YtgohlhgapboijaaGreatDoor
set_option linter.unusedVariables false
set_option linter.unusedSimpArgs false
open Go.RowKit Go.Extern.Stop Go.Stop Go.Extern

/-- a frame and an error; the document's -/
def FPost (w : World) (W H : Int) (zs : List Int) (f : Fall) (e : Ending) (w' : World) : Prop := ∃ a n cap x, e = .returned (.tuple #[.agg #[.int .i64 W, .int .i64 H, .slice a n cap], x]) ∧ Ext w w' ∧ Ints w' (.slice a n cap) zs ∧ ErrIs w' f x
def RFPost (w : World) (W H : Int) (zs : List Int) (f : Fall) (e : Ending) (w' : World) : Prop := ∃ a n cap c b m k, e = .returned (.tuple #[.agg #[.int .i64 W, .int .i64 H, .slice a n cap], .agg #[.int .i64 c, .slice b m k]]) ∧ Ext w w' ∧ Ints w' (.slice a n cap) zs ∧ RErrIs w' f c (.slice b m k)
def newOk (W H v : Int) : Bool := sideB W && sideB H && smpB v
theorem new_size {W H : Int} (h : sideB W = true) (k : sideB H = true) : ∃ N : Nat, W * H = (N : Int) ∧ (N = 4 ∨ N = 8 ∨ N = 64 ∨ N = 128 ∨ N = 192 ∨ N = 256 ∨ N = 384 ∨ N = 512 ∨ N = 576 ∨ N = 768 ∨ N = 1024) := by
  refine ⟨(W * H).toNat, ?_, ?_⟩ <;> rcases sideB_cases h with rfl | rfl | rfl | rfl <;> rcases sideB_cases k with rfl | rfl | rfl | rfl <;> decide
end Go.Proofs.YtgohlhgapboijaaGreatDoor

/- kinref6.New: its contract over this seat's translation. -/
namespace Go.Proofs.YtgohlhgapboijaaGreatDoor
set_option linter.unusedVariables false
set_option linter.unusedSimpArgs false
open Go.RowKit Go.Extern.Stop Go.Stop Go.Extern

theorem frr_cells {w : World} {B C : Nat} (W H c : Int) (v l : Value) (hBC : B ≠ C) (h : w.cell? ⟨B, 0, none⟩ = some (.int .i64 0) ∧ w.cell? ⟨B, 1, none⟩ = some (.int .i64 0) ∧ w.cell? ⟨B, 2, none⟩ = some (.slice none 0 0)) (k0 : w.cell? ⟨C, 0, none⟩ = some (.int .i64 0)) (k1 : w.cell? ⟨C, 1, none⟩ = some (.slice none 0 0)) :
    (((((w.setCell ⟨B, 0, none⟩ (.int .i64 W)).setCell ⟨B, 1, none⟩ (.int .i64 H)).setCell ⟨B, 2, none⟩ v).setCell ⟨C, 0, none⟩ (.int .i64 c)).setCell ⟨C, 1, none⟩ l).cell? ⟨B, 0, none⟩ = some (.int .i64 W) ∧
    (((((w.setCell ⟨B, 0, none⟩ (.int .i64 W)).setCell ⟨B, 1, none⟩ (.int .i64 H)).setCell ⟨B, 2, none⟩ v).setCell ⟨C, 0, none⟩ (.int .i64 c)).setCell ⟨C, 1, none⟩ l).cell? ⟨B, 1, none⟩ = some (.int .i64 H) ∧
    (((((w.setCell ⟨B, 0, none⟩ (.int .i64 W)).setCell ⟨B, 1, none⟩ (.int .i64 H)).setCell ⟨B, 2, none⟩ v).setCell ⟨C, 0, none⟩ (.int .i64 c)).setCell ⟨C, 1, none⟩ l).cell? ⟨B, 2, none⟩ = some v ∧
    (((((w.setCell ⟨B, 0, none⟩ (.int .i64 W)).setCell ⟨B, 1, none⟩ (.int .i64 H)).setCell ⟨B, 2, none⟩ v).setCell ⟨C, 0, none⟩ (.int .i64 c)).setCell ⟨C, 1, none⟩ l).cell? ⟨C, 0, none⟩ = some (.int .i64 c) ∧
    (((((w.setCell ⟨B, 0, none⟩ (.int .i64 W)).setCell ⟨B, 1, none⟩ (.int .i64 H)).setCell ⟨B, 2, none⟩ v).setCell ⟨C, 0, none⟩ (.int .i64 c)).setCell ⟨C, 1, none⟩ l).cell? ⟨C, 1, none⟩ = some l := by
  obtain ⟨a0, a1, a2⟩ := fr_cells W H v h.1 h.2.1 h.2.2
  have o : ∀ (w : World) (i j : Nat) (x : Value), (w.setCell ⟨C, i, none⟩ x).cell? ⟨B, j, none⟩ = w.cell? ⟨B, j, none⟩ := fun w i j x => World.cell?_setCell_other w ⟨C, i, none⟩ ⟨B, j, none⟩ x (by simp [hBC, Ne.symm hBC])
  have o' : ∀ (w : World) (i j : Nat) (x : Value), (w.setCell ⟨B, i, none⟩ x).cell? ⟨C, j, none⟩ = w.cell? ⟨C, j, none⟩ := fun w i j x => World.cell?_setCell_other w ⟨B, i, none⟩ ⟨C, j, none⟩ x (by simp [hBC, Ne.symm hBC])
  obtain ⟨e0, e1⟩ := res_cells (c := c) (w := ((w.setCell ⟨B, 0, none⟩ (.int .i64 W)).setCell ⟨B, 1, none⟩ (.int .i64 H)).setCell ⟨B, 2, none⟩ v) (((o' _ _ _ _).trans ((o' _ _ _ _).trans (o' _ _ _ _))).trans k0) (((o' _ _ _ _).trans ((o' _ _ _ _).trans (o' _ _ _ _))).trans k1) l
  exact ⟨((o _ _ _ _).trans (o _ _ _ _)).trans a0, ((o _ _ _ _).trans (o _ _ _ _)).trans a1, ((o _ _ _ _).trans (o _ _ _ _)).trans a2, e0, e1⟩
/-- a frame's three cells, that may be written -/
def FrHas (w : World) (B : Nat) (W H : Int) (v : Value) : Prop := (w.cell? ⟨B, 0, none⟩ = some (.int .i64 W) ∧ w.cell? ⟨B, 1, none⟩ = some (.int .i64 H) ∧ w.cell? ⟨B, 2, none⟩ = some v) ∧ w.frozen? ⟨B, 0, none⟩ = false ∧ w.frozen? ⟨B, 1, none⟩ = false ∧ w.frozen? ⟨B, 2, none⟩ = false
theorem FrHas.new (w : World) (W H : Int) (v : Value) : FrHas (w.alloc (.cells #[.int .i64 W, .int .i64 H, v] 48)) w.heap.size W H v := by
  refine ⟨⟨by simp, by simp, by simp⟩, by simp, by simp, by simp⟩
theorem FrHas.under {w w' : World} {B D : Nat} {W H : Int} {v : Value} (h : FrHas w B W H v) (k : Below D w w') (hb : B < D) : FrHas w' B W H v := by
  obtain ⟨⟨h0, h1, h2⟩, f0, f1, f2⟩ := h
  exact ⟨⟨(Below.cell k (p := ⟨B, 0, none⟩) hb).trans h0, (Below.cell k (p := ⟨B, 1, none⟩) hb).trans h1, (Below.cell k (p := ⟨B, 2, none⟩) hb).trans h2⟩, (Below.frozen k (p := ⟨B, 0, none⟩) hb).trans f0, (Below.frozen k (p := ⟨B, 1, none⟩) hb).trans f1, (Below.frozen k (p := ⟨B, 2, none⟩) hb).trans f2⟩
theorem FrHas.ext {w w' : World} {B : Nat} {W H : Int} {v : Value} (h : FrHas w B W H v) (k : Ext w w') : FrHas w' B W H v := h.under k (Ext.lt h.1.1)
theorem FrHas.set {w : World} {B : Nat} {W H : Int} {v : Value} (h : FrHas w B W H v) (u : Value) : FrHas (w.setCell ⟨B, 2, none⟩ u) B W H u := by
  obtain ⟨⟨h0, h1, h2⟩, f0, f1, f2⟩ := h
  refine ⟨⟨(World.cell?_setCell_other w ⟨B, 2, none⟩ ⟨B, 0, none⟩ u (by simp)).trans h0, (World.cell?_setCell_other w ⟨B, 2, none⟩ ⟨B, 1, none⟩ u (by simp)).trans h1, World.cell?_setCell_same _ _ u h2⟩, ?_, ?_, ?_⟩
  · simpa using f0
  · simpa using f1
  · simpa using f2
theorem own_slice {w : World} {base n : Nat} {e : TypeId} {s : Nat} {v : Value} {xs : List Value} (h : w.ownsRow base e s v n xs) : ∃ a cap, v = .slice a n cap := by
  obtain ⟨hl, h⟩ := h
  rcases h with ⟨h1, h2⟩ | ⟨g, cap, cur, e, -⟩
  · exact ⟨none, 0, by rw [h1, h2]⟩
  · exact ⟨some ⟨g, 0, none⟩, cap, e⟩
theorem row_setCell {w : World} {base n : Nat} {xs : List Value} {v : Value} (h : w.ownsRow base 3 1 v n xs) (b i : Nat) (hb : b < base) (u : Value) : (w.setCell ⟨b, i, none⟩ u).ownsRow base 3 1 v n xs := ownsRow_setCell_below h (a := ⟨b, i, none⟩) hb u
end Go.Proofs.YtgohlhgapboijaaGreatDoor
