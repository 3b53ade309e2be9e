/- Contracts of this seat: Brd, Bcl, Fr, AnyB, BMath, WOwn, Blk. -/
import Derived.Test.YtehmgieocoppjaaDoorBiM
import Derived.Test.YtehmgieocoppjaaDoorZp
import Derived.BigQuiet
import Derived.Deep.QuietTactic
import Derived.WalkSpells
import Derived.Test.YtehmgieocoppjaaDoorMm
import Derived.Test.YtehmgieocoppjaaDoorCards
import Derived.Sort.WalkC
import Derived.Lib.OwnBridge
import Derived.BigRegion
/- Bytes; a bits.Reader; Left, Place, Get: contracts over this seat's translation. -/
namespace Go.Proofs.YtehmgieocoppjaaDoor
set_option linter.unusedVariables false
set_option linter.unusedSimpArgs false
open Go.RowKit Go.Extern.Stop Go.Stop Go.Extern
variable {F : Nat → Prop}

/-- a slice of bytes -/
def Bys (w : World) (v : Value) (bs : List Nat) : Prop := Row w v bs.length (bs.map fun x : Nat => Value.int .u8 (x : Int)) ∧ (∀ x ∈ bs, x < 256) ∧ bs.length ≤ 140737488355328
theorem Bys.ext {w w' : World} {v : Value} {bs : List Nat} (h : Bys w v bs) (k : Ext w w') : Bys w' v bs := ⟨h.1.ext k, h.2⟩
theorem Bys.form {w : World} {v : Value} {bs : List Nat} (h : Bys w v bs) : ∃ a cap, v = .slice a bs.length cap := h.1.form
theorem Bys.len {w : World} {a : Option Addr} {n cap : Nat} {bs : List Nat} (h : Bys w (.slice a n cap) bs) : n = bs.length := by
  obtain ⟨a', cap', e, -⟩ := h.1
  simp only [Value.slice.injEq] at e
  exact e.2.1
theorem Bys.had {w : World} {a : Option Addr} {n cap : Nat} {bs : List Nat} (h : Bys w (.slice a n cap) bs) (hn : 0 < n) : ∃ g off, a = some ⟨g, off, none⟩ := by
  have hl := h.len
  obtain ⟨a', cap', e, -, -, h3, -⟩ := h.1
  simp only [Value.slice.injEq] at e
  obtain ⟨rfl, -, -⟩ := e
  exact h3 (by omega)
theorem Bys.at {w : World} {g off n cap : Nat} {bs : List Nat} (h : Bys w (.slice (some ⟨g, off, none⟩) n cap) bs) {j : Nat} {x : Nat} (hj : bs[j]? = some x) : w.cell? ⟨g, off + j, none⟩ = some (.int .u8 (x : Int)) := by
  obtain ⟨a', cap', e, -, -, -, h4⟩ := h.1
  simp only [Value.slice.injEq] at e
  exact h4 g off e.1.symm j _ (by rw [List.getElem?_map, hj]; rfl)
theorem nget_of_lt {bs : List Nat} {j : Nat} (h : j < bs.length) : bs[j]? = some (bs.getD j 0) := by simp [List.getD, h]
theorem Bys.lt {w : World} {v : Value} {bs : List Nat} (h : Bys w v bs) (j : Nat) : bs.getD j 0 < 256 := by
  by_cases hj : j < bs.length
  · exact h.2.1 _ (List.mem_of_getElem? (nget_of_lt hj))
  · rw [List.getD, List.getElem?_eq_none (by omega)]; decide

/-- a reader's two cells, of which the place may be written -/
def RdBox (w : World) (b : Nat) (u : Value) (p : Nat) : Prop := w.cell? ⟨b, 0, none⟩ = some u ∧ w.cell? ⟨b, 1, none⟩ = some (.int .i64 (p : Int)) ∧ w.frozen? ⟨b, 1, none⟩ = false
theorem RdBox.ext {w w' : World} {b : Nat} {u : Value} {p : Nat} (h : RdBox w b u p) (k : Ext w w') : RdBox w' b u p := ⟨k.cell h.1, k.cell h.2.1, (Below.frozen (p := ⟨b, 1, none⟩) k (Ext.lt (p := ⟨b, 0, none⟩) h.1)).trans h.2.2⟩
theorem cell_off_ne {w : World} {b i j : Nat} (u : Value) (h : i ≠ j) : (w.setCell ⟨b, i, none⟩ u).cell? ⟨b, j, none⟩ = w.cell? ⟨b, j, none⟩ :=
  World.cell?_setCell_other w _ _ u (fun e => h (congrArg Addr.off e))
theorem RdBox.set {w : World} {b : Nat} {u : Value} {p : Nat} (h : RdBox w b u p) (q : Nat) : RdBox (w.setCell ⟨b, 1, none⟩ (.int .i64 (q : Int))) b u q :=
  ⟨(cell_off_ne _ (by decide)).trans h.1, World.cell?_setCell_same _ _ _ h.2.1, by simpa using h.2.2⟩
/-- a reader of these bytes at this place, and what it reads lies elsewhere -/
def RdAt (F : Nat → Prop) (w : World) (b : Nat) (bs : List Nat) (p : Nat) : Prop := ∃ a cap, RdBox w b (.slice a bs.length cap) p ∧ Bys w (.slice a bs.length cap) bs ∧ (∀ g off, a = some ⟨g, off, none⟩ → g ≠ b ∧ ¬ F g)
theorem RdAt.ext {w w' : World} {b : Nat} {bs : List Nat} {p : Nat} (h : RdAt F w b bs p) (k : Ext w w') : RdAt F w' b bs p := by
  obtain ⟨a, cap, h1, h2, h3⟩ := h
  exact ⟨a, cap, h1.ext k, h2.ext k, h3⟩
theorem row_kp {w w' : World} {b : Nat} {a : Option Addr} {n cap : Nat} {N : Nat} {xs : List Value} (h : Row w (.slice a n cap) N xs) (k : Kp b w w') (hb : ∀ g off, a = some ⟨g, off, none⟩ → g ≠ b) : Row w' (.slice a n cap) N xs := by
  obtain ⟨a', cap', e, h1, h2, h3, h4⟩ := h
  simp only [Value.slice.injEq] at e
  obtain ⟨rfl, rfl, rfl⟩ := e
  exact ⟨a, cap, rfl, h1, h2, h3, fun g off ha j u hu => k.cell (h4 g off ha j u hu) (hb g off ha)⟩
theorem RdAt.set {w : World} {b : Nat} {bs : List Nat} {p : Nat} (h : RdAt F w b bs p) (q : Nat) : RdAt F (w.setCell ⟨b, 1, none⟩ (.int .i64 (q : Int))) b bs q := by
  obtain ⟨a, cap, h1, h2, h3⟩ := h
  exact ⟨a, cap, h1.set q, ⟨row_kp h2.1 ((Kp.refl b w).set 1 _) (fun g off ha => (h3 g off ha).1), h2.2⟩, h3⟩

theorem RdAt.mono {E : Nat → Prop} {w : World} {b : Nat} {bs : List Nat} {p : Nat} (h : RdAt F w b bs p) (k : ∀ g, E g → F g) : RdAt E w b bs p := by
  obtain ⟨a, cap, h1, h2, h3⟩ := h
  exact ⟨a, cap, h1, h2, fun g off ha => ⟨(h3 g off ha).1, fun e => (h3 g off ha).2 (k g e)⟩⟩
theorem RdAt.kp {w w' : World} {b d : Nat} {bs : List Nat} {p : Nat} (h : RdAt F w b bs p) (k : Kp d w w') (hd : F d) (hb : b ≠ d) : RdAt F w' b bs p := by
  obtain ⟨a, cap, ⟨h0, h1, h2⟩, h3, h4⟩ := h
  have e := k.block (Ext.lt (p := ⟨b, 0, none⟩) h0) hb
  exact ⟨a, cap, ⟨(World.cell?_of_block (a := ⟨b, 0, none⟩) e).trans h0, (World.cell?_of_block (a := ⟨b, 1, none⟩) e).trans h1, (World.frozen?_of_block (a := ⟨b, 1, none⟩) e).trans h2⟩, ⟨row_kp h3.1 k (fun g off ha e => (h4 g off ha).2 (e ▸ hd)), h3.2⟩, h4⟩
set_option maxRecDepth 20000 in
theorem left_any (b p : Nat) (bs : List Nat) (w : World) (h : RdAt F w b bs p) (hp : p ≤ 8 * bs.length) :
    Calls Tryd.prog 63  #[.pointer (some ⟨b, 0, none⟩)] w fun e w' => e = .returned (.int .i64 ((8 * bs.length - p : Nat) : Int)) ∧ Ext w w' := by
  obtain ⟨a, cap, ⟨h0, h1, h2⟩, ⟨-, -, hl⟩, -⟩ := h
  obtain ⟨n, hn⟩ : ∃ n, n = bs.length := ⟨_, rfl⟩
  rw [← hn] at h0 hp hl ⊢
  have e1 : IntKind.i64.wrap (8 * (n : Int)) = 8 * (n : Int) := by rw [IntKind.wrap_i64]; omega
  have e2 : IntKind.i64.wrap (8 * (n : Int) - (p : Int)) = ((8 * n - p : Nat) : Int) := by rw [IntKind.wrap_i64]; omega
  clear hn
  go_enter Tryd.func63, Tryd.ntmps63
  go_wp2_with fail
  go_quiet (fail)
  go_wp2
  go_ret
  exact ⟨rfl, (Ext.refl w).drewN _⟩
set_option maxRecDepth 20000 in
theorem place_any (b p : Nat) (bs : List Nat) (w : World) (h : RdAt F w b bs p) :
    Calls Tryd.prog 42 #[.pointer (some ⟨b, 0, none⟩)] w fun e w' => e = .returned (.int .i64 (p : Int)) ∧ w = w' := by
  obtain ⟨a, cap, ⟨h0, h1, h2⟩, -, -⟩ := h
  go_enter Tryd.func42, Tryd.ntmps42
  go_wp2
  go_ret
  exact ⟨rfl, rfl⟩
end Go.Proofs.YtehmgieocoppjaaDoor

/- Bytes copied: slices.Clone, kinref.CopyBytes; bits.NewReader: contracts over this seat's translation. -/
namespace Go.Proofs.YtehmgieocoppjaaDoor
set_option linter.unusedVariables false
set_option linter.unusedSimpArgs false
open Go.RowKit Go.Extern.Stop Go.Stop Go.Extern

theorem infoU8 : (Tryd.prog.info? 5).map (fun i => (i.zero, i.size, i.bytes)) = some (some (.int .u8 0), 1, 1) := by kernel_rfl
/-- bytes as cells -/
def byC (bs : List Nat) : List Value := bs.map fun x : Nat => Value.int .u8 (x : Int)
theorem byC_length (bs : List Nat) : (byC bs).length = bs.length := by simp [byC]
theorem byC_one (bs : List Nat) : ∀ u ∈ byC bs, u.oneCell' = true := fun u hu => by
  obtain ⟨x, _, rfl⟩ := List.mem_map.1 hu
  rfl
theorem news_of_bys {w : World} {g off n cap : Nat} {bs : List Nat} (h : Bys w (.slice (some ⟨g, off, none⟩) n cap) bs) : ∀ j u, (byC bs)[j]? = some u → w.cell? ((⟨g, off, none⟩ : Addr).add j) = some u := fun j u hu => by
  have hadd : (⟨g, off, none⟩ : Addr).add j = ⟨g, off + j, none⟩ := by unfold Addr.add; split <;> simp_all
  unfold byC at hu
  rw [List.getElem?_map] at hu
  obtain ⟨x, hx, rfl⟩ := Option.map_eq_some_iff.1 hu
  rw [hadd]
  exact h.at hx
theorem Bys.of_owns {w : World} {base n : Nat} {v : Value} {bs : List Nat} (h : w.ownsRow base 5 1 v n (byC bs)) (hb : ∀ x ∈ bs, x < 256) (hl : bs.length ≤ 140737488355328) : Bys w v bs := by
  have hn : n = bs.length := by have := h.1; rw [byC_length] at this; omega
  subst hn
  exact ⟨Row.of_owns h, hb, hl⟩
theorem Bys.nil (w : World) : Bys w (.slice none 0 0) [] := ⟨Row.nil w, by simp, by simp⟩
theorem Bys.caps {w : World} {a : Option Addr} {n cap : Nat} {bs : List Nat} (h : Bys w (.slice a n cap) bs) : n ≤ cap ∧ cap ≤ maxLen := by
  obtain ⟨a', cap', e, h1, h2, -, -⟩ := h.1
  simp only [Value.slice.injEq] at e
  obtain ⟨-, rfl, rfl⟩ := e
  exact ⟨h1, h2⟩
def CPost (w : World) (bs : List Nat) (e : Ending) (w' : World) : Prop := ∃ u, e = .returned u ∧ w'.ownsRow w.heap.size 5 1 u bs.length (byC bs) ∧ Ext w w'
set_option maxRecDepth 20000 in
set_option maxHeartbeats 2000000 in
theorem clb_any (bs : List Nat) (v : Value) (w : World) (ha : Bys w v bs) : Calls Tryd.prog 50 #[v] w (CPost w bs) := by
  obtain ⟨i0, hi, hz0, hz1, hz2⟩ := info_parts infoU8
  obtain ⟨n, hn⟩ : ∃ n, n = bs.length := ⟨_, rfl⟩
  have hl := ha.2.2
  have E1 : Ext w (w.alloc (.cells #[] 5)) := (Ext.refl w).alloc _
  have hown : (w.alloc (.cells #[] 5)).ownsRow w.heap.size 5 1 (.slice (some ⟨w.heap.size, 0, none⟩) 0 0) 0 [] := World.ownsRow_made w #[] 0 (Nat.le_refl _) (Nat.zero_le _) rfl
  have fin : ∀ (v' : Value) (w' : World), w'.ownsRow w.heap.size 5 1 v' (0 + n) ([] ++ byC bs) → (w.alloc (.cells #[] 5)).grownBy w' (some w.heap.size) → w'.ownsRow w.heap.size 5 1 v' n (byC bs) ∧ Ext w w' := fun v' w' h1 h2 =>
    ⟨by simpa using h1, Below.grown E1 h2 (by simp) (fun k hk => by cases hk; exact Nat.le_refl _)⟩
  have FIN := Lib.hid fin
  clear fin
  obtain ⟨a, cap, rfl⟩ := ha.form
  rw [← hn] at ha hl
  by_cases hz : n = 0
  · obtain rfl : bs = [] := List.eq_nil_of_length_eq_zero (by omega)
    subst hz
    clear ha hn
    cases a with
    | none =>
      have r1 : ∀ W, (binOp .eql 43 (.slice none 0 cap) (.slice none 0 0)).run Tryd.prog W = .ok (.bool true) W := fun W => Lib.run_eql_slice_nil W _ _ _ 0 cap 0 0 Tryd.underlying43
      go_enter Tryd.func50, Tryd.ntmps50
      go_wp2
      go_ret
      exact ⟨_, rfl, World.ownsRow_nil _ _ _ _, Ext.refl _⟩
    | some a =>
      have r1 : ∀ W, (binOp .eql 43 (.slice (some a) 0 cap) (.slice none 0 0)).run Tryd.prog W = .ok (.bool false) W := fun W => Lib.run_eql_slice_nil W _ _ _ 0 cap 0 0 Tryd.underlying43
      go_enter Tryd.func50, Tryd.ntmps50
      go_wp2_with (at_builtin; refine wpList_append_own _ rfl _ _ 43 rfl w.heap.size 5 i0 (.int .u8 0) 1 1 Tryd.underlying43 hi hz0 hz1 hz2 rfl (by decide) _ 0 [] rfl hown a 0 cap [] rfl rfl (by simp) (by simp) (by decide) (by decide) (by simp) ?_; intro v' w' h1 h2 _)
      go_ret
      obtain ⟨h3, h4⟩ := FIN.out _ _ h1 h2
      exact ⟨_, rfl, h3, h4⟩
  · obtain ⟨g, off, rfl⟩ := ha.had (by omega)
    obtain ⟨c1, c2⟩ := ha.caps
    have hnews := news_of_bys (ha.ext E1)
    have HN := Lib.hid hn
    have HW := Lib.hid hnews
    have r1 : ∀ W, (binOp .eql 43 (.slice (some ⟨g, off, none⟩) n cap) (.slice none 0 0)).run Tryd.prog W = .ok (.bool false) W := fun W => Lib.run_eql_slice_nil W _ _ _ n cap 0 0 Tryd.underlying43
    rw [← hn]
    clear hn hnews hz
    go_enter Tryd.func50, Tryd.ntmps50
    go_wp2_with (at_builtin; refine wpList_append_own _ rfl _ _ 43 rfl w.heap.size 5 i0 (.int .u8 0) 1 1 Tryd.underlying43 hi hz0 hz1 hz2 rfl (by decide) _ 0 [] rfl hown ⟨g, off, none⟩ n cap (byC bs) rfl (by rw [byC_length, HN.out, Nat.mul_one]) HW.out (byC_one bs) (by unfold maxLen; omega) (by omega) (by simp) ?_; intro v' w' h1 h2 _)
    go_ret
    obtain ⟨h3, h4⟩ := FIN.out _ _ h1 h2
    exact ⟨_, rfl, by rw [← HN.out]; exact h3, h4⟩
end Go.Proofs.YtehmgieocoppjaaDoor

/- Frames: what they are, which may be; plane.isSide, isSample, Clip, May and the document's: contracts over this seat's translation. -/
namespace Go.Proofs.YtehmgieocoppjaaDoor
set_option linter.unusedVariables false
set_option linter.unusedSimpArgs false
open Go.RowKit Go.Extern.Stop Go.Stop Go.Extern

def sideB (n : Int) : Bool := decide (8 ≤ n) && decide (n ≤ 32) && decide (n % 8 = 0)
/-- may a frame of these sides and samples be? -/
def may (W H : Int) (zs : List Int) : Prop := sideB W = true ∧ sideB H = true ∧ (zs.length : Int) = W * H ∧ within 0 255 zs
instance (W H : Int) (zs : List Int) : Decidable (may W H zs) := by unfold may; exact inferInstance
theorem sideB_true {n : Int} (h : sideB n = true) : 8 ≤ n ∧ n ≤ 32 ∧ n % 8 = 0 := by
  unfold sideB at h
  simp at h
  omega
theorem sideB_cases {n : Int} (h : sideB n = true) : n = 8 ∨ n = 16 ∨ n = 24 ∨ n = 32 := by
  have := sideB_true h
  omega
theorem may_area {W H : Int} {zs : List Int} (h : may W H zs) : 64 ≤ W * H ∧ W * H ≤ 1024 := by
  rcases sideB_cases h.1 with rfl | rfl | rfl | rfl <;> rcases sideB_cases h.2.1 with rfl | rfl | rfl | rfl <;> decide
theorem side_area {W H : Int} (h : sideB W = true) (k : sideB H = true) : 64 ≤ W * H ∧ W * H ≤ 1024 := by
  rcases sideB_cases h with rfl | rfl | rfl | rfl <;> rcases sideB_cases k with rfl | rfl | rfl | rfl <;> decide

def smpB (n : Int) : Bool := decide (0 ≤ n) && decide (n ≤ 255)
def clipI (n : Int) : Int := max 0 (min n 255)
end Go.Proofs.YtehmgieocoppjaaDoor

/- slices.ContainsFunc at this seat's predicates: contracts over this seat's translation. -/
namespace Go.Proofs.YtehmgieocoppjaaDoor
set_option linter.unusedVariables false
set_option linter.unusedSimpArgs false
open Go.RowKit Go.Extern.Stop Go.Stop Go.Extern

def IdxPost (w : World) (b : Bool) (e : Ending) (w' : World) : Prop := ∃ i : Int, e = .returned (.int .i64 i) ∧ decide (0 ≤ i) = b ∧ w = w'
def farB (x : Int) : Bool := decide (x < -1048576) || decide (1048576 < x)
def nzB (x : Int) : Bool := decide (x ≠ 0)
def nosmpB (x : Int) : Bool := decide (x < 0) || decide (255 < x)
theorem any_of_get {zs : List Int} {p : Int → Bool} {k : Nat} {x : Int} (h : zs[k]? = some x) (hp : p x = true) : zs.any p = true := List.any_eq_true.2 ⟨x, List.mem_of_getElem? h, hp⟩
theorem any_no {zs : List Int} {p : Int → Bool} (h : ∀ j x, j < zs.length → zs[j]? = some x → p x = false) : zs.any p = false := by
  rw [Bool.eq_false_iff]
  intro ht
  obtain ⟨x, hx, hp⟩ := List.any_eq_true.1 ht
  obtain ⟨j, hj, e⟩ := List.mem_iff_getElem.1 hx
  have := h j x hj (by rw [List.getElem?_eq_getElem hj, e])
  rw [this] at hp
  cases hp

end Go.Proofs.YtehmgieocoppjaaDoor

/- Chapter 7, plain arithmetic: how unlike two rows are, and the zigzag of 4 and 8. -/
namespace Go.Proofs.YtehmgieocoppjaaDoor
set_option linter.unusedVariables false
set_option linter.unusedSimpArgs false

/-- how unlike the first n of two rows are -/
def sadF (f g : Nat → Int) : Nat → Int
  | 0 => 0
  | j + 1 => sadF f g j + max (f j - g j) (g j - f j)
theorem sadF_comm (f g : Nat → Int) (n : Nat) : sadF f g n = sadF g f n := by
  induction n with
  | zero => rfl
  | succ n ih => unfold sadF; omega
theorem sadF_tri (f g h : Nat → Int) (n : Nat) : sadF f h n ≤ sadF f g n + sadF g h n := by
  induction n with
  | zero => simp [sadF]
  | succ n ih => unfold sadF; omega
theorem sadF_pos (f g : Nat → Int) (n : Nat) : 0 ≤ sadF f g n := by
  induction n with
  | zero => simp [sadF]
  | succ n ih => unfold sadF; omega
theorem sadF_zero (f g : Nat → Int) (n : Nat) : sadF f g n = 0 ↔ ∀ j, j < n → f j = g j := by
  induction n with
  | zero => simp [sadF]
  | succ n ih =>
    have hp := sadF_pos f g n
    unfold sadF
    constructor
    · intro h j hj
      by_cases e : j = n
      · subst e; omega
      · exact ih.1 (by omega) j (by omega)
    · intro h
      have h1 := ih.2 (fun j hj => h j (by omega))
      have h2 := h n (by omega)
      omega
theorem sadF_bound {f g : Nat → Int} {B : Int} (hf : ∀ j, -B ≤ f j ∧ f j ≤ B) (hg : ∀ j, -B ≤ g j ∧ g j ≤ B) (n : Nat) : sadF f g n ≤ 2 * B * n := by
  induction n with
  | zero => simp [sadF]
  | succ n ih =>
    have h1 := hf n
    have h2 := hg n
    have e : 2 * B * ((n : Nat) + 1 : Int) = 2 * B * n + 2 * B := by rw [Int.mul_add]; omega
    unfold sadF
    push_cast
    omega
/-- the index that lies i-th on the diagonal s of a square of n, by the landed way: rows from lo to hi -/
def zigLo (n s : Nat) : Nat := s + 1 - n
def zigHi (n s : Nat) : Nat := min s (n - 1)
def zigAt (n s i : Nat) : Nat := let y := if s % 2 = 0 then zigHi n s - (i - zigLo n s) else i; y * n + s - y
def zigDiag (n s k : Nat) : List Nat := (List.range (k - zigLo n s)).map fun i => zigAt n s (zigLo n s + i)
def zigPre (n s : Nat) : List Nat := (List.range s).flatMap fun s => zigDiag n s (zigHi n s + 1)
/-- and by the document's way: rows from 0 to s, those that lie inside -/
def zigY (s i : Nat) : Nat := if s % 2 = 0 then s - i else i
def zigRow (n s k : Nat) : List Nat := ((List.range k).filter fun i => zigY s i < n ∧ s - zigY s i < n).map fun i => zigY s i * n + s - zigY s i
theorem zig_same4 : ∀ s < 7, zigRow 4 s (s + 1) = zigDiag 4 s (zigHi 4 s + 1) := by decide +kernel
theorem zig_same8 : ∀ s < 15, zigRow 8 s (s + 1) = zigDiag 8 s (zigHi 8 s + 1) := by decide +kernel
theorem zig_four : zigPre 4 7 = [0, 1, 4, 8, 5, 2, 3, 6, 9, 12, 13, 10, 7, 11, 14, 15] := by decide +kernel
theorem zig_len : (zigPre 4 7).length = 16 ∧ (zigPre 8 15).length = 64 := by decide +kernel
theorem zig_once : (zigPre 4 7).Nodup ∧ (zigPre 8 15).Nodup ∧ (∀ x ∈ zigPre 4 7, x < 16) ∧ (∀ x ∈ zigPre 8 15, x < 64) := by decide +kernel
theorem zigDiag_succ {n s k : Nat} (h : zigLo n s ≤ k) : zigDiag n s (k + 1) = zigDiag n s k ++ [zigAt n s k] := by
  unfold zigDiag
  rw [show k + 1 - zigLo n s = (k - zigLo n s) + 1 by omega, List.range_succ, List.map_append]
  simp only [List.map_cons, List.map_nil]
  rw [show zigLo n s + (k - zigLo n s) = k by omega]
theorem zigPre_succ (n s : Nat) : zigPre n (s + 1) = zigPre n s ++ zigDiag n s (zigHi n s + 1) := by
  unfold zigPre
  rw [List.range_succ, List.flatMap_append]
  simp
theorem zigRow_succ (n s k : Nat) : zigRow n s (k + 1) = zigRow n s k ++ (if zigY s k < n ∧ s - zigY s k < n then [zigY s k * n + s - zigY s k] else []) := by
  unfold zigRow
  rw [List.range_succ, List.filter_append, List.map_append]
  congr 1
  by_cases h : zigY s k < n ∧ s - zigY s k < n
  · rw [if_pos h]; simp [h]
  · rw [if_neg h]; simp [List.filter_cons, h]
/-- the quarter of an index of 64, and its place there -/
def qOf (i : Nat) : Nat := i / 32 * 2 + i % 8 / 4
def qAt (i : Nat) : Nat := i % 32 / 8 * 4 + i % 4
def qIdx (q k : Nat) : List Nat := (List.range k).filter fun i => qOf i == q
theorem qOf_landed : ∀ i < 64, i / 8 / 4 * 2 + i % 8 / 4 = qOf i ∧ qOf i < 4 ∧ qAt i < 16 := by decide +kernel
theorem qIdx_succ (q k : Nat) : qIdx q (k + 1) = qIdx q k ++ (if qOf k = q then [k] else []) := by
  unfold qIdx
  rw [List.range_succ, List.filter_append]
  congr 1
  by_cases h : qOf k = q
  · rw [if_pos h]; simp [h]
  · rw [if_neg h]; simp [h]
theorem qIdx_count : ∀ i < 64, (qIdx (qOf i) i).length = qAt i := by decide +kernel
theorem qIdx_full : ∀ q < 4, (qIdx q 64).length = 16 := by decide +kernel
theorem qIdx_back : ∀ i < 64, (qIdx (qOf i) 64)[qAt i]? = some i := by decide +kernel
end Go.Proofs.YtehmgieocoppjaaDoor

/- Ints that the call itself made: reading, writing. -/
namespace Go.Proofs.YtehmgieocoppjaaDoor
set_option linter.unusedVariables false
set_option linter.unusedSimpArgs false
open Go.RowKit Go.Sort

def rowA (N : Nat) (f : Nat → Int) : Array Int := Array.ofFn (fun i : Fin N => f i)
theorem rowA_size (N : Nat) (f : Nat → Int) : (rowA N f).size = N := by simp [rowA]
theorem rowA_get {N : Nat} {f : Nat → Int} {j : Nat} (h : j < N) : (rowA N f)[j]! = f j := by
  rw [getElem!_pos _ _ (by rw [rowA_size]; exact h)]
  simp [rowA]
theorem rowA_set {N : Nat} {f : Nat → Int} {i : Nat} {x : Int} : (rowA N f).setIfInBounds i x = rowA N (fun j => if j = i then x else f j) := by
  apply Array.ext_getElem?
  intro j
  rw [Array.getElem?_setIfInBounds]
  by_cases hj : j < N
  · by_cases h : i = j
    · subst h; simp [rowA, hj]
    · have h' : ¬ j = i := fun e => h e.symm
      simp [rowA, hj, h, h']
  · by_cases h : i = j
    · subst h; simp [rowA, hj]
    · simp [rowA, hj, h]
theorem rowA_congr {N : Nat} {f g : Nat → Int} (h : ∀ j, j < N → f j = g j) : rowA N f = rowA N g := by
  apply Array.ext
  · simp [rowA]
  · intro j h1 h2
    simp only [rowA, Array.getElem_ofFn]
    exact h j (by simpa [rowA] using h1)

def rowL (N : Nat) (f : Nat → Int) : List Int := (List.range N).map f
theorem rowL_length (N : Nat) (f : Nat → Int) : (rowL N f).length = N := by simp [rowL]
theorem rowL_get {N : Nat} {f : Nat → Int} {j : Nat} (h : j < N) : (rowL N f)[j]? = some (f j) := by simp [rowL, h]
theorem rowL_arr (N : Nat) (f : Nat → Int) : (rowL N f).toArray = rowA N f := by
  apply Array.ext_getElem?
  intro j
  by_cases h : j < N <;> simp [rowL, rowA, h]
theorem rowL_getD (zs : List Int) : rowL zs.length (fun i => zs.getD i 0) = zs := by
  apply List.ext_getElem?
  intro j
  by_cases h : j < zs.length <;> simp [rowL, h]
/-- ints that the call itself made -/
theorem Ints.of_row {w : World} {base N : Nat} {v : Value} {f : Nat → Int} (h : w.ownsRow base 3 1 v N ((rowL N f).map (Value.int .i64))) (hN : N ≤ 1000000) : Ints w v (rowL N f) := Ints.of_owns h (by rw [rowL_length]; omega)
theorem one_set {w : World} {blk N q k : Nat} {f : Nat → Int} {x : Int} (hk : k < N) :
    ((putRow (Value.int .i64) w blk 0 (rowA N f)).drewN q).setCell ⟨blk, k, none⟩ (.int .i64 x) = (putRow (Value.int .i64) w blk 0 (rowA N (fun i => if i = k then x else f i))).drewN q := by
  have e1 := putRow_set (Value.int .i64) w blk 0 (rowA N f) k x (by rw [rowA_size]; exact hk)
  rw [← rowA_set, ← e1]
  simp only [Nat.zero_add]
  rfl
theorem own_form {w : World} {base N : Nat} {v : Value} {f : Nat → Int} (h : w.ownsRow base 3 1 v N ((rowL N f).map (Value.int .i64))) (hN : 1 ≤ N) : ∃ g cap, v = .slice (some ⟨g, 0, none⟩) N cap ∧ base ≤ g ∧ g < w.heap.size ∧ N ≤ cap ∧ cap ≤ maxLen := by
  obtain ⟨g, cap', e, hg, hgl, hc1, hc2, -, -⟩ := Lib.holds_of_ownsRow (enc := Value.int .i64) h (by
    rintro rfl
    rcases h.2 with ⟨_, h0⟩ | ⟨_, _, _, h0, _⟩
    · omega
    · cases h0)
  exact ⟨g, cap', e, hg, hgl, hc1, hc2⟩
theorem own_holds {w : World} {base g cap N : Nat} {f : Nat → Int} (h : w.ownsRow base 3 1 (.slice (some ⟨g, 0, none⟩) N cap) N ((rowL N f).map (Value.int .i64))) : Holds (Value.int .i64) w g 0 (rowA N f) := by
  obtain ⟨g', cap', e, -, -, -, -, -, hH⟩ := Lib.holds_of_ownsRow (enc := Value.int .i64) h (by intro e; cases e)
  simp only [Value.slice.injEq, Option.some.injEq, Addr.mk.injEq, and_true, true_and] at e
  obtain ⟨rfl, rfl⟩ := e
  rwa [rowL_arr] at hH
theorem own_cell {w : World} {base g cap N k : Nat} {f : Nat → Int} (h : w.ownsRow base 3 1 (.slice (some ⟨g, 0, none⟩) N cap) N ((rowL N f).map (Value.int .i64))) (hk : k < N) : w.cell? ⟨g, k, none⟩ = some (.int .i64 (f k)) ∧ w.frozen? ⟨g, k, none⟩ = false := by
  obtain ⟨ck, fk⟩ := own_holds h k (by rw [rowA_size]; exact hk)
  rw [rowA_get hk] at ck
  exact ⟨by simpa using ck, by simpa using fk⟩
theorem own_set {w : World} {base g cap N k : Nat} {f : Nat → Int} {x : Int} (h : w.ownsRow base 3 1 (.slice (some ⟨g, 0, none⟩) N cap) N ((rowL N f).map (Value.int .i64))) (hk : k < N) :
    (w.setCell ⟨g, k, none⟩ (.int .i64 x)).ownsRow base 3 1 (.slice (some ⟨g, 0, none⟩) N cap) N ((rowL N (fun i => if i = k then x else f i)).map (Value.int .i64)) := by
  have e := one_set (w := w) (blk := g) (q := 0) (f := f) (x := x) hk
  rw [putRow_self _ _ _ _ _ (own_holds h)] at e
  have ho := Lib.ownsRow_putRow (q := 0) (k := N) h (rowL_length N (fun i => if i = k then x else f i)) (Nat.le_refl _)
  rw [List.take_of_length_le (by rw [rowL_length]; exact Nat.le_refl _), rowL_arr] at ho
  rw [show w.setCell ⟨g, k, none⟩ (.int .i64 x) = putRow (Value.int .i64) (Sort.ahead w 0) g 0 (rowA N (fun i => if i = k then x else f i)) from e]
  exact ho
theorem own_ext {w w' : World} {base : Nat} {e : TypeId} {size n : Nat} {v : Value} {xs : List Value} (h : w.ownsRow base e size v n xs) (k : Ext w w') : w'.ownsRow base e size v n xs := by
  obtain ⟨hl, h⟩ := h
  refine ⟨hl, ?_⟩
  rcases h with h | ⟨g, cap, cur, rfl, hb, hg, h⟩
  · exact Or.inl h
  · have hlt : g < w.heap.size := by
      rcases Nat.lt_or_ge g w.heap.size with h' | h'
      · exact h'
      · rw [Array.getElem?_eq_none h'] at hg; cases hg
    exact Or.inr ⟨g, cap, cur, rfl, hb, (k.block hlt).trans hg, h⟩
end Go.Proofs.YtehmgieocoppjaaDoor

/- block.matched, Sad, Sub, Add, Zero: contracts over this seat's translation. -/
namespace Go.Proofs.YtehmgieocoppjaaDoor
set_option linter.unusedVariables false
set_option linter.unusedSimpArgs false
open Go.RowKit Go.Extern.Stop Go.Stop Go.Extern

def fit : Fall := some ([], 14)
def range : Fall := some ([], 3)
/-- what forbids to hold two lists against one another -/
def matAns (xs ys : List Int) : Fall := if xs.length = ys.length then (if xs.any farB = true ∨ ys.any farB = true then range else none) else fit
theorem farB_no {x : Int} (h : farB x = false) : -1048576 ≤ x ∧ x ≤ 1048576 := by
  unfold farB at h
  simp at h
  omega
theorem any_false {zs : List Int} {p : Int → Bool} (h : zs.any p = false) (j : Nat) (d : Int) (hd : p d = false) : p (zs.getD j d) = false := by
  by_cases hj : j < zs.length
  · have hm : zs.getD j d ∈ zs := by simp [List.getD, hj]
    cases hp : p (zs.getD j d) with
    | false => rfl
    | true => rw [List.any_eq_true.2 ⟨_, hm, hp⟩] at h; cases h
  · simpa [List.getD, List.getElem?_eq_none (Nat.not_lt.1 hj)] using hd
theorem matAns_none {xs ys : List Int} (h : matAns xs ys = none) : xs.length = ys.length ∧ (∀ j, -1048576 ≤ xs.getD j 0 ∧ xs.getD j 0 ≤ 1048576) ∧ ∀ j, -1048576 ≤ ys.getD j 0 ∧ ys.getD j 0 ≤ 1048576 := by
  unfold matAns at h
  split at h
  · rename_i h1
    split at h
    · cases h
    · rename_i h2
      refine ⟨h1, fun j => farB_no (any_false ?_ j 0 rfl), fun j => farB_no (any_false ?_ j 0 rfl)⟩
      · cases hx : xs.any farB with
        | false => rfl
        | true => exact absurd (Or.inl hx) h2
      · cases hx : ys.any farB with
        | false => rfl
        | true => exact absurd (Or.inr hx) h2
  · cases h

/-- how unlike two lists are -/
def sadV (xs ys : List Int) : Int := match matAns xs ys with
  | none => sadF (fun i => xs.getD i 0) (fun i => ys.getD i 0) xs.length
  | some _ => 0
theorem getD_of_get {zs : List Int} {j : Nat} {x : Int} (h : zs[j]? = some x) : zs.getD j 0 = x := by simp [List.getD, h]
theorem get_of_lt {zs : List Int} {j : Nat} (h : j < zs.length) : zs[j]? = some (zs.getD j 0) := by simp [List.getD, h]

end Go.Proofs.YtehmgieocoppjaaDoor
