/- Contracts of this seat: Brd, Cds, Bcl, Usm, Ubs, Umk, Res, AppRow, Bst, WOwn, Pk, StA, Ob0, Ob1, Ob2. -/
import Derived.Test.YtlaedbglclmheaaGreatDoorZa
import Derived.Test.YtlaedbglclmheaaGreatDoorZb
import Derived.BigQuiet
import Derived.Deep.QuietTactic
import Derived.WalkSpells
import Derived.Laws.AppendOwnNone
import Derived.OwnWalk
import Derived.Deep.AppendLies
import Derived.Laws.BytesArg
import Derived.Sort.WalkC
import Derived.Lib.OwnBridge
/- Bytes; a bits.Reader; Left, Place, Get: contracts over this seat's translation. -/
namespace Go.Proofs.YtlaedbglclmheaaGreatDoor
set_option linter.unusedVariables false
set_option linter.unusedSimpArgs false
open Go.RowKit Go.Extern.Stop Go.Stop Go.Extern
variable {F : Nat → Prop}

/-- a slice of bytes -/
def Bys (w : World) (v : Value) (bs : List Nat) : Prop := Row w v bs.length (bs.map fun x : Nat => Value.int .u8 (x : Int)) ∧ (∀ x ∈ bs, x < 256) ∧ bs.length ≤ 140737488355328
theorem Bys.ext {w w' : World} {v : Value} {bs : List Nat} (h : Bys w v bs) (k : Ext w w') : Bys w' v bs := ⟨h.1.ext k, h.2⟩
theorem Bys.form {w : World} {v : Value} {bs : List Nat} (h : Bys w v bs) : ∃ a cap, v = .slice a bs.length cap := h.1.form
theorem Bys.len {w : World} {a : Option Addr} {n cap : Nat} {bs : List Nat} (h : Bys w (.slice a n cap) bs) : n = bs.length := by
  obtain ⟨a', cap', e, -⟩ := h.1
  simp only [Value.slice.injEq] at e
  exact e.2.1
theorem Bys.had {w : World} {a : Option Addr} {n cap : Nat} {bs : List Nat} (h : Bys w (.slice a n cap) bs) (hn : 0 < n) : ∃ g off, a = some ⟨g, off, none⟩ := by
  have hl := h.len
  obtain ⟨a', cap', e, -, -, h3, -⟩ := h.1
  simp only [Value.slice.injEq] at e
  obtain ⟨rfl, -, -⟩ := e
  exact h3 (by omega)
theorem Bys.at {w : World} {g off n cap : Nat} {bs : List Nat} (h : Bys w (.slice (some ⟨g, off, none⟩) n cap) bs) {j : Nat} {x : Nat} (hj : bs[j]? = some x) : w.cell? ⟨g, off + j, none⟩ = some (.int .u8 (x : Int)) := by
  obtain ⟨a', cap', e, -, -, -, h4⟩ := h.1
  simp only [Value.slice.injEq] at e
  exact h4 g off e.1.symm j _ (by rw [List.getElem?_map, hj]; rfl)
theorem nget_of_lt {bs : List Nat} {j : Nat} (h : j < bs.length) : bs[j]? = some (bs.getD j 0) := by simp [List.getD, h]
theorem Bys.lt {w : World} {v : Value} {bs : List Nat} (h : Bys w v bs) (j : Nat) : bs.getD j 0 < 256 := by
  by_cases hj : j < bs.length
  · exact h.2.1 _ (List.mem_of_getElem? (nget_of_lt hj))
  · rw [List.getD, List.getElem?_eq_none (by omega)]; decide

/-- a reader's two cells, of which the place may be written -/
def RdBox (w : World) (b : Nat) (u : Value) (p : Nat) : Prop := w.cell? ⟨b, 0, none⟩ = some u ∧ w.cell? ⟨b, 1, none⟩ = some (.int .i64 (p : Int)) ∧ w.frozen? ⟨b, 1, none⟩ = false
theorem RdBox.ext {w w' : World} {b : Nat} {u : Value} {p : Nat} (h : RdBox w b u p) (k : Ext w w') : RdBox w' b u p := ⟨k.cell h.1, k.cell h.2.1, (Below.frozen (p := ⟨b, 1, none⟩) k (Ext.lt (p := ⟨b, 0, none⟩) h.1)).trans h.2.2⟩
theorem cell_off_ne {w : World} {b i j : Nat} (u : Value) (h : i ≠ j) : (w.setCell ⟨b, i, none⟩ u).cell? ⟨b, j, none⟩ = w.cell? ⟨b, j, none⟩ :=
  World.cell?_setCell_other w _ _ u (fun e => h (congrArg Addr.off e))
theorem RdBox.set {w : World} {b : Nat} {u : Value} {p : Nat} (h : RdBox w b u p) (q : Nat) : RdBox (w.setCell ⟨b, 1, none⟩ (.int .i64 (q : Int))) b u q :=
  ⟨(cell_off_ne _ (by decide)).trans h.1, World.cell?_setCell_same _ _ _ h.2.1, by simpa using h.2.2⟩
/-- a reader of these bytes at this place, and what it reads lies elsewhere -/
def RdAt (F : Nat → Prop) (w : World) (b : Nat) (bs : List Nat) (p : Nat) : Prop := ∃ a cap, RdBox w b (.slice a bs.length cap) p ∧ Bys w (.slice a bs.length cap) bs ∧ (∀ g off, a = some ⟨g, off, none⟩ → g ≠ b ∧ ¬ F g)
theorem RdAt.ext {w w' : World} {b : Nat} {bs : List Nat} {p : Nat} (h : RdAt F w b bs p) (k : Ext w w') : RdAt F w' b bs p := by
  obtain ⟨a, cap, h1, h2, h3⟩ := h
  exact ⟨a, cap, h1.ext k, h2.ext k, h3⟩
theorem row_kp {w w' : World} {b : Nat} {a : Option Addr} {n cap : Nat} {N : Nat} {xs : List Value} (h : Row w (.slice a n cap) N xs) (k : Kp b w w') (hb : ∀ g off, a = some ⟨g, off, none⟩ → g ≠ b) : Row w' (.slice a n cap) N xs := by
  obtain ⟨a', cap', e, h1, h2, h3, h4⟩ := h
  simp only [Value.slice.injEq] at e
  obtain ⟨rfl, rfl, rfl⟩ := e
  exact ⟨a, cap, rfl, h1, h2, h3, fun g off ha j u hu => k.cell (h4 g off ha j u hu) (hb g off ha)⟩
theorem RdAt.set {w : World} {b : Nat} {bs : List Nat} {p : Nat} (h : RdAt F w b bs p) (q : Nat) : RdAt F (w.setCell ⟨b, 1, none⟩ (.int .i64 (q : Int))) b bs q := by
  obtain ⟨a, cap, h1, h2, h3⟩ := h
  exact ⟨a, cap, h1.set q, ⟨row_kp h2.1 ((Kp.refl b w).set 1 _) (fun g off ha => (h3 g off ha).1), h2.2⟩, h3⟩

theorem RdAt.mono {E : Nat → Prop} {w : World} {b : Nat} {bs : List Nat} {p : Nat} (h : RdAt F w b bs p) (k : ∀ g, E g → F g) : RdAt E w b bs p := by
  obtain ⟨a, cap, h1, h2, h3⟩ := h
  exact ⟨a, cap, h1, h2, fun g off ha => ⟨(h3 g off ha).1, fun e => (h3 g off ha).2 (k g e)⟩⟩
theorem RdAt.kp {w w' : World} {b d : Nat} {bs : List Nat} {p : Nat} (h : RdAt F w b bs p) (k : Kp d w w') (hd : F d) (hb : b ≠ d) : RdAt F w' b bs p := by
  obtain ⟨a, cap, ⟨h0, h1, h2⟩, h3, h4⟩ := h
  have e := k.block (Ext.lt (p := ⟨b, 0, none⟩) h0) hb
  exact ⟨a, cap, ⟨(World.cell?_of_block (a := ⟨b, 0, none⟩) e).trans h0, (World.cell?_of_block (a := ⟨b, 1, none⟩) e).trans h1, (World.frozen?_of_block (a := ⟨b, 1, none⟩) e).trans h2⟩, ⟨row_kp h3.1 k (fun g off ha e => (h4 g off ha).2 (e ▸ hd)), h3.2⟩, h4⟩
end Go.Proofs.YtlaedbglclmheaaGreatDoor

/- Lists of coded frames. -/
namespace Go.Proofs.YtlaedbglclmheaaGreatDoor
set_option linter.unusedVariables false
set_option linter.unusedSimpArgs false
open Go.RowKit Go.Extern.Stop Go.Stop Go.Extern
abbrev Cd := Int × List Nat
def byV (bs : List Nat) : List Value := bs.map fun x : Nat => Value.int .u8 (x : Int)
/-- a coded frame in a list -/
def CdIn (w : World) (g i : Nat) (c : Cd) : Prop := ∃ ra rn rc, w.cell? ⟨g, i, none⟩ = some (.int .i64 c.1) ∧ w.cell? ⟨g, i + 1, none⟩ = some (.slice ra rn rc) ∧ Row w (.slice ra rn rc) c.2.length (byV c.2) ∧ ∀ x ∈ c.2, x < 256
def Cds (w : World) (v : Value) (L : List Cd) : Prop := ∃ (a : Option Addr) (cap : Nat), v = .slice a L.length cap ∧ (L.length ≤ cap ∧ cap ≤ maxLen) ∧ (0 < L.length → ∃ g off, a = some ⟨g, off, none⟩ ∧ ∀ q c, L[q]? = some c → CdIn w g (off + q * 2) c)
theorem CdIn.ext {w w' : World} {g i : Nat} {c : Cd} (h : CdIn w g i c) (k : Ext w w') : CdIn w' g i c := by
  obtain ⟨ra, rn, rc, h1, h2, h3, h4⟩ := h
  exact ⟨ra, rn, rc, k.cell h1, k.cell h2, h3.ext k, h4⟩
theorem Cds.ext {w w' : World} {v : Value} {L : List Cd} (h : Cds w v L) (k : Ext w w') : Cds w' v L := by
  obtain ⟨a, cap, e, hc, h⟩ := h
  refine ⟨a, cap, e, hc, fun h0 => ?_⟩
  obtain ⟨g, off, e2, h3⟩ := h h0
  exact ⟨g, off, e2, fun q c hq => (h3 q c hq).ext k⟩
theorem Cds.form {w : World} {v : Value} {L : List Cd} (h : Cds w v L) : ∃ a cap, v = .slice a L.length cap := by
  obtain ⟨a, cap, e, -⟩ := h
  exact ⟨a, cap, e⟩
theorem Cds.len {w : World} {a : Option Addr} {n cap : Nat} {L : List Cd} (h : Cds w (.slice a n cap) L) : n = L.length := by
  obtain ⟨a', c', e⟩ := h.form
  simp only [Value.slice.injEq] at e
  exact e.2.1
theorem Cds.had {w : World} {a : Option Addr} {n cap : Nat} {L : List Cd} (h : Cds w (.slice a n cap) L) (hn : 0 < n) : ∃ g off, a = some ⟨g, off, none⟩ := by
  have hl := h.len
  obtain ⟨a', cap', e, -, h⟩ := h
  simp only [Value.slice.injEq] at e
  obtain ⟨g, off, e2, -⟩ := h (by omega)
  exact ⟨g, off, e.1.trans e2⟩
theorem Cds.at {w : World} {g off n cap : Nat} {L : List Cd} (h : Cds w (.slice (some ⟨g, off, none⟩) n cap) L) {q : Nat} {c : Cd} (hq : L[q]? = some c) : CdIn w g (off + q * 2) c := by
  obtain ⟨a', cap', e, -, h⟩ := h
  simp only [Value.slice.injEq] at e
  have hlt := (List.getElem?_eq_some_iff.1 hq).1
  obtain ⟨g', off', e2, h3⟩ := h (by omega)
  have := e.1.trans e2
  simp only [Option.some.injEq, Addr.mk.injEq, and_true] at this
  obtain ⟨rfl, rfl⟩ := this
  exact h3 q c hq
theorem Cds.caps {w : World} {a : Option Addr} {n cap : Nat} {L : List Cd} (h : Cds w (.slice a n cap) L) : n ≤ cap ∧ cap ≤ maxLen := by
  obtain ⟨a', cap', e, hc, -⟩ := h
  simp only [Value.slice.injEq] at e
  obtain ⟨rfl, rfl, rfl⟩ := e
  exact hc
theorem Cds.nil (w : World) : Cds w (.slice none 0 0) [] := ⟨none, 0, rfl, ⟨Nat.le_refl _, Nat.zero_le _⟩, fun h => by simp at h⟩
end Go.Proofs.YtlaedbglclmheaaGreatDoor

/- Bytes copied: slices.Clone, kinref.CopyBytes; bits.NewReader: contracts over this seat's translation. -/
namespace Go.Proofs.YtlaedbglclmheaaGreatDoor
set_option linter.unusedVariables false
set_option linter.unusedSimpArgs false
open Go.RowKit Go.Extern.Stop Go.Stop Go.Extern

theorem infoU8 : (Tryz.prog.info? 5).map (fun i => (i.zero, i.size, i.bytes)) = some (some (.int .u8 0), 1, 1) := by kernel_rfl
/-- bytes as cells -/
def byC (bs : List Nat) : List Value := bs.map fun x : Nat => Value.int .u8 (x : Int)
theorem byC_length (bs : List Nat) : (byC bs).length = bs.length := by simp [byC]
theorem byC_one (bs : List Nat) : ∀ u ∈ byC bs, u.oneCell' = true := fun u hu => by
  obtain ⟨x, _, rfl⟩ := List.mem_map.1 hu
  rfl
theorem news_of_bys {w : World} {g off n cap : Nat} {bs : List Nat} (h : Bys w (.slice (some ⟨g, off, none⟩) n cap) bs) : ∀ j u, (byC bs)[j]? = some u → w.cell? ((⟨g, off, none⟩ : Addr).add j) = some u := fun j u hu => by
  have hadd : (⟨g, off, none⟩ : Addr).add j = ⟨g, off + j, none⟩ := by unfold Addr.add; split <;> simp_all
  unfold byC at hu
  rw [List.getElem?_map] at hu
  obtain ⟨x, hx, rfl⟩ := Option.map_eq_some_iff.1 hu
  rw [hadd]
  exact h.at hx
theorem Bys.of_owns {w : World} {base n : Nat} {v : Value} {bs : List Nat} (h : w.ownsRow base 5 1 v n (byC bs)) (hb : ∀ x ∈ bs, x < 256) (hl : bs.length ≤ 140737488355328) : Bys w v bs := by
  have hn : n = bs.length := by have := h.1; rw [byC_length] at this; omega
  subst hn
  exact ⟨Row.of_owns h, hb, hl⟩
theorem Bys.nil (w : World) : Bys w (.slice none 0 0) [] := ⟨Row.nil w, by simp, by simp⟩
theorem Bys.caps {w : World} {a : Option Addr} {n cap : Nat} {bs : List Nat} (h : Bys w (.slice a n cap) bs) : n ≤ cap ∧ cap ≤ maxLen := by
  obtain ⟨a', cap', e, h1, h2, -, -⟩ := h.1
  simp only [Value.slice.injEq] at e
  obtain ⟨-, rfl, rfl⟩ := e
  exact ⟨h1, h2⟩
def CPost (w : World) (bs : List Nat) (e : Ending) (w' : World) : Prop := ∃ u, e = .returned u ∧ w'.ownsRow w.heap.size 5 1 u bs.length (byC bs) ∧ Ext w w'
set_option maxRecDepth 20000 in
set_option maxHeartbeats 2000000 in
theorem clb_any (bs : List Nat) (v : Value) (w : World) (ha : Bys w v bs) : Calls Tryz.prog 99 #[v] w (CPost w bs) := by
  obtain ⟨i0, hi, hz0, hz1, hz2⟩ := info_parts infoU8
  obtain ⟨n, hn⟩ : ∃ n, n = bs.length := ⟨_, rfl⟩
  have hl := ha.2.2
  have E1 : Ext w (w.alloc (.cells #[] 5)) := (Ext.refl w).alloc _
  have hown : (w.alloc (.cells #[] 5)).ownsRow w.heap.size 5 1 (.slice (some ⟨w.heap.size, 0, none⟩) 0 0) 0 [] := World.ownsRow_made w #[] 0 (Nat.le_refl _) (Nat.zero_le _) rfl
  have fin : ∀ (v' : Value) (w' : World), w'.ownsRow w.heap.size 5 1 v' (0 + n) ([] ++ byC bs) → (w.alloc (.cells #[] 5)).grownBy w' (some w.heap.size) → w'.ownsRow w.heap.size 5 1 v' n (byC bs) ∧ Ext w w' := fun v' w' h1 h2 =>
    ⟨by simpa using h1, Below.grown E1 h2 (by simp) (fun k hk => by cases hk; exact Nat.le_refl _)⟩
  have FIN := Lib.hid fin
  clear fin
  obtain ⟨a, cap, rfl⟩ := ha.form
  rw [← hn] at ha hl
  by_cases hz : n = 0
  · obtain rfl : bs = [] := List.eq_nil_of_length_eq_zero (by omega)
    subst hz
    clear ha hn
    cases a with
    | none =>
      have r1 : ∀ W, (binOp .eql 30 (.slice none 0 cap) (.slice none 0 0)).run Tryz.prog W = .ok (.bool true) W := fun W => Lib.run_eql_slice_nil W _ _ _ 0 cap 0 0 Tryz.underlying30
      go_enter Tryz.func99, Tryz.ntmps99
      go_wp2
      go_ret
      exact ⟨_, rfl, World.ownsRow_nil _ _ _ _, Ext.refl _⟩
    | some a =>
      have r1 : ∀ W, (binOp .eql 30 (.slice (some a) 0 cap) (.slice none 0 0)).run Tryz.prog W = .ok (.bool false) W := fun W => Lib.run_eql_slice_nil W _ _ _ 0 cap 0 0 Tryz.underlying30
      go_enter Tryz.func99, Tryz.ntmps99
      go_wp2_with (at_builtin; refine wpList_append_own _ rfl _ _ 30 rfl w.heap.size 5 i0 (.int .u8 0) 1 1 Tryz.underlying30 hi hz0 hz1 hz2 rfl (by decide) _ 0 [] rfl hown a 0 cap [] rfl rfl (by simp) (by simp) (by decide) (by decide) (by simp) ?_; intro v' w' h1 h2 _)
      go_ret
      obtain ⟨h3, h4⟩ := FIN.out _ _ h1 h2
      exact ⟨_, rfl, h3, h4⟩
  · obtain ⟨g, off, rfl⟩ := ha.had (by omega)
    obtain ⟨c1, c2⟩ := ha.caps
    have hnews := news_of_bys (ha.ext E1)
    have HN := Lib.hid hn
    have HW := Lib.hid hnews
    have r1 : ∀ W, (binOp .eql 30 (.slice (some ⟨g, off, none⟩) n cap) (.slice none 0 0)).run Tryz.prog W = .ok (.bool false) W := fun W => Lib.run_eql_slice_nil W _ _ _ n cap 0 0 Tryz.underlying30
    rw [← hn]
    clear hn hnews hz
    go_enter Tryz.func99, Tryz.ntmps99
    go_wp2_with (at_builtin; refine wpList_append_own _ rfl _ _ 30 rfl w.heap.size 5 i0 (.int .u8 0) 1 1 Tryz.underlying30 hi hz0 hz1 hz2 rfl (by decide) _ 0 [] rfl hown ⟨g, off, none⟩ n cap (byC bs) rfl (by rw [byC_length, HN.out, Nat.mul_one]) HW.out (byC_one bs) (by unfold maxLen; omega) (by omega) (by simp) ?_; intro v' w' h1 h2 _)
    go_ret
    obtain ⟨h3, h4⟩ := FIN.out _ _ h1 h2
    exact ⟨_, rfl, by rw [← HN.out]; exact h3, h4⟩
set_option maxRecDepth 20000 in
set_option maxHeartbeats 2000000 in
theorem cpb_any (bs : List Nat) (v : Value) (w : World) (ha : Bys w v bs) : Calls Tryz.prog 27 #[v] w (CPost w bs) := by
  obtain ⟨i0, hi, hz0, hz1, hz2⟩ := info_parts infoU8
  obtain ⟨n, hn⟩ : ∃ n, n = bs.length := ⟨_, rfl⟩
  have hl := ha.2.2
  have E1 : Ext w (w.alloc (.cells #[] 5)) := (Ext.refl w).alloc _
  have hown : (w.alloc (.cells #[] 5)).ownsRow w.heap.size 5 1 (.slice (some ⟨w.heap.size, 0, none⟩) 0 0) 0 [] := World.ownsRow_made w #[] 0 (Nat.le_refl _) (Nat.zero_le _) rfl
  have fin : ∀ (v' : Value) (w' : World), w'.ownsRow w.heap.size 5 1 v' (0 + n) ([] ++ byC bs) → (w.alloc (.cells #[] 5)).grownBy w' (some w.heap.size) → w'.ownsRow w.heap.size 5 1 v' n (byC bs) ∧ Ext w w' := fun v' w' h1 h2 =>
    ⟨by simpa using h1, Below.grown E1 h2 (by simp) (fun k hk => by cases hk; exact Nat.le_refl _)⟩
  have FIN := Lib.hid fin
  clear fin
  obtain ⟨a, cap, rfl⟩ := ha.form
  rw [← hn] at ha hl
  by_cases hz : n = 0
  · obtain rfl : bs = [] := List.eq_nil_of_length_eq_zero (by omega)
    subst hz
    clear ha hn
    cases a with
    | none =>
      go_enter Tryz.func27, Tryz.ntmps27
      go_wp2
      go_ret
      exact ⟨_, rfl, hown, E1⟩
    | some a =>
      have r1 : ∀ W, (binOp .eql 30 (.slice (some a) 0 cap) (.slice none 0 0)).run Tryz.prog W = .ok (.bool false) W := fun W => Lib.run_eql_slice_nil W _ _ _ 0 cap 0 0 Tryz.underlying30
      go_enter Tryz.func27, Tryz.ntmps27
      go_wp2_with (at_builtin; refine wpList_append_own _ rfl _ _ 30 rfl w.heap.size 5 i0 (.int .u8 0) 1 1 Tryz.underlying30 hi hz0 hz1 hz2 rfl (by decide) _ 0 [] rfl hown a 0 cap [] rfl rfl (by simp) (by simp) (by decide) (by decide) (by simp) ?_; intro v' w' h1 h2 _)
      go_ret
      obtain ⟨h3, h4⟩ := FIN.out _ _ h1 h2
      exact ⟨_, rfl, h3, h4⟩
  · obtain ⟨g, off, rfl⟩ := ha.had (by omega)
    obtain ⟨c1, c2⟩ := ha.caps
    have hnews := news_of_bys (ha.ext E1)
    have HN := Lib.hid hn
    have HW := Lib.hid hnews
    have r1 : ∀ W, (binOp .eql 30 (.slice (some ⟨g, off, none⟩) n cap) (.slice none 0 0)).run Tryz.prog W = .ok (.bool false) W := fun W => Lib.run_eql_slice_nil W _ _ _ n cap 0 0 Tryz.underlying30
    rw [← hn]
    clear hn hnews hz
    go_enter Tryz.func27, Tryz.ntmps27
    go_wp2_with (at_builtin; refine wpList_append_own _ rfl _ _ 30 rfl w.heap.size 5 i0 (.int .u8 0) 1 1 Tryz.underlying30 hi hz0 hz1 hz2 rfl (by decide) _ 0 [] rfl hown ⟨g, off, none⟩ n cap (byC bs) rfl (by rw [byC_length, HN.out, Nat.mul_one]) HW.out (byC_one bs) (by unfold maxLen; omega) (by omega) (by simp) ?_; intro v' w' h1 h2 _)
    go_ret
    obtain ⟨h3, h4⟩ := FIN.out _ _ h1 h2
    exact ⟨_, rfl, by rw [← HN.out]; exact h3, h4⟩
end Go.Proofs.YtlaedbglclmheaaGreatDoor

/- unit.Sum, kinref4.Sum: contracts over this seat's translation. -/
namespace Go.Proofs.YtlaedbglclmheaaGreatDoor
set_option linter.unusedVariables false
set_option linter.unusedSimpArgs false
open Go.RowKit Go.Extern.Stop Go.Stop Go.Extern

theorem ofInt32_nat (n : Nat) : BitVec.ofInt 32 (n : Int) = BitVec.ofNat 32 n := by
  apply BitVec.eq_of_toNat_eq
  simp [BitVec.toNat_ofNat]
theorem xor_u32 {a b : Nat} (ha : a < 4294967296) (hb : b < 4294967296) : bits .xor .u32 (a : Int) (b : Int) = ((a ^^^ b : Nat) : Int) := by
  have h := Nat.xor_lt_two_pow (n := 32) ha hb
  have e : (BitVec.ofInt 32 (a : Int) ^^^ BitVec.ofInt 32 (b : Int)).toNat = a ^^^ b := by
    rw [ofInt32_nat, ofInt32_nat, BitVec.toNat_xor, BitVec.toNat_ofNat, BitVec.toNat_ofNat, Nat.mod_eq_of_lt ha, Nat.mod_eq_of_lt hb]
  show IntKind.u32.wrap (((BitVec.ofInt 32 (a : Int) ^^^ BitVec.ofInt 32 (b : Int)).toNat : Nat) : Int) = _
  rw [e, IntKind.wrap_u32]
  omega
theorem and_u32 {a t : Nat} (ha : a < 4294967296) (ht : t ≤ 31) : bits .and .u32 (a : Int) ((2 ^ t - 1 : Nat) : Int) = ((a % 2 ^ t : Nat) : Int) := by
  have h2 : 2 ^ t ≤ 2 ^ 31 := Nat.pow_le_pow_right (by decide) ht
  have hm : a % 2 ^ t < 2 ^ t := Nat.mod_lt _ (Nat.two_pow_pos t)
  have e : (BitVec.ofInt 32 (a : Int) &&& BitVec.ofInt 32 ((2 ^ t - 1 : Nat) : Int)).toNat = a % 2 ^ t := by
    rw [ofInt32_nat, ofInt32_nat, BitVec.toNat_and, BitVec.toNat_ofNat, BitVec.toNat_ofNat, Nat.mod_eq_of_lt ha, Nat.mod_eq_of_lt (by omega), Nat.and_two_pow_sub_one_eq_mod]
  show IntKind.u32.wrap (((BitVec.ofInt 32 (a : Int) &&& BitVec.ofInt 32 ((2 ^ t - 1 : Nat) : Int)).toNat : Nat) : Int) = _
  rw [e, IntKind.wrap_u32]
  omega
/-- the table -/
def NbIs (w : World) : Prop := ∀ r, r < 16 → w.cell? ⟨0, r, none⟩ = some (.int .u32 (nib r : Int))
theorem NbIs.ext {w w' : World} (h : NbIs w) (k : Ext w w') : NbIs w' := fun r hr => k.cell (h r hr)
theorem crcF_take {bs : List Nat} {i x : Nat} (h : bs[i]? = some x) (c : Nat) : crcF c (bs.take (i + 1)) = stpC (crcF c (bs.take i)) x := by
  rw [List.take_add_one, h, crcF_app]
  rfl
theorem u32_not {c : Nat} (h : c < 4294967296) : c ^^^ 4294967295 = 4294967295 - c := by
  have e : (BitVec.ofNat 32 c ^^^ BitVec.allOnes 32).toNat = 2 ^ 32 - 1 - c := by
    rw [BitVec.xor_allOnes, BitVec.toNat_not, BitVec.toNat_ofNat, Nat.mod_eq_of_lt h]
  rw [BitVec.toNat_xor, BitVec.toNat_ofNat, Nat.mod_eq_of_lt h] at e
  simpa using e
set_option maxHeartbeats 4000000 in
set_option maxRecDepth 20000 in
theorem sum_any (bs : List Nat) (v : Value) (w : World) (hn : NbIs w) (h : Bys w v bs) : Calls Tryz.prog 96 #[v] w fun e w' => e = .returned (.int .u32 (crc bs : Int)) ∧ w = w' := by
  obtain ⟨a, cap, rfl⟩ := h.form
  obtain ⟨n, hn'⟩ : ∃ n, n = bs.length := ⟨_, rfl⟩
  have hl := h.2.2
  rw [← hn'] at h hl ⊢
  have HN := Lib.hid hn'
  have HB := Lib.hid h
  have HNB := Lib.hid hn
  clear hn' h hn
  go_enter Tryz.func96, Tryz.ntmps96
  go_wp2_with fail
  go_loop [3, 8] (fun sv iv => ∃ i : Nat, i ≤ n ∧ sv = .int .u32 (crcF 4294967295 (bs.take i) : Int) ∧ iv = .int .i64 (i : Int)) (fun _ iv => n - (intOf iv).toNat)
  case atStart => exact ⟨0, Nat.zero_le _, rfl, rfl⟩
  case round =>
    obtain ⟨i, hi, rfl, rfl⟩ := hrel
    by_cases hlt : i < n
    · obtain ⟨g, off, rfl⟩ := HB.out.had (by omega)
      have hx := nget_of_lt (bs := bs) (j := i) (by rw [← HN.out]; exact hlt)
      have cx := HB.out.at hx
      have hxb := HB.out.lt i
      have HS := Lib.hid (crcF_take hx 4294967295)
      have hc : crcF 4294967295 (bs.take i) < 4294967296 := crcF_lt (by decide) (fun y hy => HB.out.2.1 y (List.mem_of_mem_take hy))
      obtain ⟨x, hxx⟩ : ∃ x, bs.getD i 0 = x := ⟨_, rfl⟩
      obtain ⟨c, hcc⟩ : ∃ c, crcF 4294967295 (bs.take i) = c := ⟨_, rfl⟩
      rw [hxx] at cx hxb HS
      rw [hcc] at hc HS ⊢
      rw [stpC_nib] at HS
      have hc1 : c ^^^ x < 4294967296 := Nat.xor_lt_two_pow (n := 32) hc (by omega)
      have k1 := xor_u32 hc (show x < 4294967296 by omega)
      obtain ⟨c1, e1⟩ : ∃ c1, c ^^^ x = c1 := ⟨_, rfl⟩
      rw [e1] at HS k1 hc1
      have k2 : bits .and .u32 (c1 : Int) 15 = ((c1 % 2 ^ 4 : Nat) : Int) := and_u32 hc1 (t := 4) (by decide)
      obtain ⟨l1, e2⟩ : ∃ l1, c1 % 16 = l1 := ⟨_, rfl⟩
      have e2' : c1 % 2 ^ 4 = l1 := e2
      rw [e2'] at k2
      obtain ⟨h1, e3⟩ : ∃ h1, c1 / 16 = h1 := ⟨_, rfl⟩
      have t1 := HNB.out l1 (by omega)
      have hn1 := nib_lt (r := l1) (by omega)
      rw [e2, e3] at HS
      obtain ⟨n1, e4⟩ : ∃ n1, nib l1 = n1 := ⟨_, rfl⟩
      rw [e4] at HS t1 hn1
      have k3 := xor_u32 (show h1 < 4294967296 by omega) hn1
      have hc2 : h1 ^^^ n1 < 4294967296 := Nat.xor_lt_two_pow (n := 32) (by omega) hn1
      obtain ⟨c2, e5⟩ : ∃ c2, h1 ^^^ n1 = c2 := ⟨_, rfl⟩
      rw [e5] at HS k3 hc2
      have k4 : bits .and .u32 (c2 : Int) 15 = ((c2 % 2 ^ 4 : Nat) : Int) := and_u32 hc2 (t := 4) (by decide)
      obtain ⟨l2, e6⟩ : ∃ l2, c2 % 16 = l2 := ⟨_, rfl⟩
      have e6' : c2 % 2 ^ 4 = l2 := e6
      rw [e6'] at k4
      obtain ⟨h2, e7⟩ : ∃ h2, c2 / 16 = h2 := ⟨_, rfl⟩
      have t2 := HNB.out l2 (by omega)
      have hn2 := nib_lt (r := l2) (by omega)
      rw [e6, e7] at HS
      obtain ⟨n2, e8⟩ : ∃ n2, nib l2 = n2 := ⟨_, rfl⟩
      rw [e8] at HS t2 hn2
      have k5 := xor_u32 (show h2 < 4294967296 by omega) hn2
      obtain ⟨c3, e9⟩ : ∃ c3, h2 ^^^ n2 = c3 := ⟨_, rfl⟩
      rw [e9] at HS k5
      have m1 : (c1 : Int) / 16 = (h1 : Int) := by omega
      have m2 : (c2 : Int) / 16 = (h2 : Int) := by omega
      have m3 : IntKind.u32.wrap (x : Int) = (x : Int) := by rw [IntKind.wrap_u32]; omega
      have m4 : IntKind.u32.wrap (h1 : Int) = (h1 : Int) := by rw [IntKind.wrap_u32]; omega
      have m5 : IntKind.u32.wrap (h2 : Int) = (h2 : Int) := by rw [IntKind.wrap_u32]; omega
      have x1 : (0 : Int) ≤ (i : Int) := by omega
      have x2 : (i : Int) < (n : Int) := by omega
      have y1 : (0 : Int) ≤ (l1 : Int) := by omega
      have y2 : (l1 : Int) < 16 := by omega
      have y3 : (0 : Int) ≤ (l2 : Int) := by omega
      have y4 : (l2 : Int) < 16 := by omega
      clear hx hxx hcc e1 e2 e2' e3 e4 e5 e6 e6' e7 e8 e9
      go_wp2
      go_roundw
      case rel => exact ⟨i + 1, by omega, by rw [HS.out], by go_num⟩
      case measure => simp [intOf]; omega
    · obtain rfl : i = n := by omega
      have ht : bs.take i = bs := List.take_of_length_le (by rw [← HN.out]; exact Nat.le_refl _)
      have hc : crcF 4294967295 bs < 4294967296 := crcF_lt (by decide) HB.out.2.1
      have k9 : bits .xor .u32 IntKind.u32.max (crcF 4294967295 bs : Int) = (crc bs : Int) := by
        have := xor_u32 (a := 4294967295) (by decide) hc
        rw [show IntKind.u32.max = ((4294967295 : Nat) : Int) from rfl, this]
        unfold crc
        rw [Nat.xor_comm]
      have HC := Lib.hid k9
      rw [ht]
      clear ht k9
      have sg : ¬ IntKind.u32.signed = true := by decide
      go_wp2
      go_ret
      exact ⟨by rw [← HC.out]; rfl, rfl⟩
set_option maxHeartbeats 4000000 in
set_option maxRecDepth 20000 in
theorem rsum_any (bs : List Nat) (v : Value) (w : World) (h : Bys w v bs) : Calls Tryz.prog 112 #[v] w fun e w' => e = .returned (.int .u32 (crc bs : Int)) ∧ w = w' := by
  obtain ⟨a, cap, rfl⟩ := h.form
  obtain ⟨n, hn'⟩ : ∃ n, n = bs.length := ⟨_, rfl⟩
  have hl := h.2.2
  rw [← hn'] at h hl ⊢
  have HN := Lib.hid hn'
  have HB := Lib.hid h
  clear hn' h
  go_enter Tryz.func112, Tryz.ntmps112
  go_wp2_with fail
  go_loop [3, 4] (fun sv iv => ∃ i : Nat, i ≤ n ∧ sv = .int .u32 (crcF 4294967295 (bs.take i) : Int) ∧ iv = .int .i64 (i : Int)) (fun _ iv => n - (intOf iv).toNat)
  case atStart => exact ⟨0, Nat.zero_le _, rfl, rfl⟩
  case round =>
    obtain ⟨i, hi, rfl, rfl⟩ := hrel
    by_cases hlt : i < n
    · obtain ⟨g, off, rfl⟩ := HB.out.had (by omega)
      have hx := nget_of_lt (bs := bs) (j := i) (by rw [← HN.out]; exact hlt)
      have cx := HB.out.at hx
      have hxb := HB.out.lt i
      have HS := Lib.hid (crcF_take hx 4294967295)
      have hc : crcF 4294967295 (bs.take i) < 4294967296 := crcF_lt (by decide) (fun y hy => HB.out.2.1 y (List.mem_of_mem_take hy))
      obtain ⟨x, hxx⟩ : ∃ x, bs.getD i 0 = x := ⟨_, rfl⟩
      obtain ⟨c, hcc⟩ : ∃ c, crcF 4294967295 (bs.take i) = c := ⟨_, rfl⟩
      rw [hxx] at cx hxb HS
      rw [hcc] at hc HS ⊢
      have hc1 : c ^^^ x < 4294967296 := Nat.xor_lt_two_pow (n := 32) hc (by omega)
      have k1 := xor_u32 hc (show x < 4294967296 by omega)
      obtain ⟨c1, e1⟩ : ∃ c1, c ^^^ x = c1 := ⟨_, rfl⟩
      rw [e1] at k1 hc1
      have HS2 : Hid (crcF 4294967295 (bs.take (i + 1)) = rN 8 c1) := by show _ = _; rw [HS.out]; unfold stpC; rw [e1]
      have m3 : IntKind.u32.wrap (x : Int) = (x : Int) := by rw [IntKind.wrap_u32]; omega
      have x1 : (0 : Int) ≤ (i : Int) := by omega
      have x2 : (i : Int) < (n : Int) := by omega
      clear hx hxx hcc e1 HS
      go_wp2_with fail
      go_loop [3, 5] (fun sv kv => ∃ k d : Nat, k ≤ 8 ∧ d < 4294967296 ∧ sv = .int .u32 (d : Int) ∧ kv = .int .i64 (k : Int) ∧ Hid (rN (8 - k) d = rN 8 c1)) (fun _ kv => 8 - (intOf kv).toNat)
      case atStart => exact ⟨0, c1, Nat.zero_le _, hc1, rfl, rfl, rfl⟩
      case round =>
        obtain ⟨k, d, hk, hd, rfl, rfl, HR⟩ := hrel
        by_cases hk8 : k < 8
        · have k2 : bits .and .u32 (d : Int) 1 = ((d % 2 ^ 1 : Nat) : Int) := and_u32 hd (t := 1) (by decide)
          obtain ⟨r, hr⟩ : ∃ r, d % 2 = r := ⟨_, rfl⟩
          obtain ⟨h1, hh⟩ : ∃ h1, d / 2 = h1 := ⟨_, rfl⟩
          have m1 : (d : Int) / 2 = (h1 : Int) := by omega
          have k2' : bits .and .u32 (d : Int) 1 = (r : Int) := by rw [k2]; rw [show d % 2 ^ 1 = r from hr]
          have HR2 : Hid (rN (8 - (k + 1)) (r1 d) = rN 8 c1) := by
            show _ = _
            rw [← HR.out, show 8 - k = (8 - (k + 1)) + 1 by omega]
            rfl
          have hd1 := r1_lt hd
          have k3 : (k : Int) < 8 := by omega
          clear k2
          by_cases hr1 : r = 1
          · subst hr1
            have e1 : r1 d = h1 ^^^ 3988292384 := by unfold r1; rw [if_pos hr, hh]
            have k4 : bits .xor .u32 (h1 : Int) 3988292384 = (r1 d : Int) := by rw [e1]; exact xor_u32 (b := 3988292384) (by omega) (by decide)
            generalize r1 d = d2 at *
            clear e1 hr hh
            go_wp2
            go_roundw
            case rel => exact ⟨k + 1, d2, by omega, hd1, rfl, by go_num, HR2.out⟩
            case measure => simp [intOf]; omega
          · obtain rfl : r = 0 := by omega
            have e1 : r1 d = h1 := by unfold r1; rw [if_neg (by omega), hh]
            rw [e1] at HR2 hd1
            clear e1 hr hh hr1
            go_wp2
            go_roundw
            case rel => exact ⟨k + 1, h1, by omega, hd1, rfl, by go_num, HR2.out⟩
            case measure => simp [intOf]; omega
        · obtain rfl : k = 8 := by omega
          have hd2 : d = rN 8 c1 := HR.out
          have HD := Lib.hid hd2
          clear hd2
          go_wp2
          go_roundw
          case rel => exact ⟨i + 1, by omega, by rw [HS2.out, HD.out], by go_num⟩
          case measure => simp [intOf]; omega
    · obtain rfl : i = n := by omega
      have ht : bs.take i = bs := List.take_of_length_le (by rw [← HN.out]; exact Nat.le_refl _)
      have hc : crcF 4294967295 bs < 4294967296 := crcF_lt (by decide) HB.out.2.1
      have k9 : bits .xor .u32 IntKind.u32.max (crcF 4294967295 bs : Int) = (crc bs : Int) := by
        have := xor_u32 (a := 4294967295) (by decide) hc
        rw [show IntKind.u32.max = ((4294967295 : Nat) : Int) from rfl, this]
        unfold crc
        rw [Nat.xor_comm]
      have HC := Lib.hid k9
      rw [ht]
      clear ht k9
      have sg : ¬ IntKind.u32.signed = true := by decide
      go_wp2
      go_ret
      exact ⟨by rw [← HC.out]; rfl, rfl⟩
end Go.Proofs.YtlaedbglclmheaaGreatDoor

/- Bytes cut, and put behind bytes of the call's own; unit.Size, Fill. -/
namespace Go.Proofs.YtlaedbglclmheaaGreatDoor
set_option linter.unusedVariables false
set_option linter.unusedSimpArgs false
open Go.RowKit Go.Extern.Stop Go.Stop Go.Extern

/-- a slice that is nil, or has an address -/
def Plain (v : Value) : Prop := v = .slice none 0 0 ∨ ∃ ad n c, v = .slice (some ad) n c
theorem Plain.of_owns {w : World} {base n : Nat} {v : Value} {e : TypeId} {s : Nat} {xs : List Value} (h : w.ownsRow base e s v n xs) : Plain v := by
  rcases h.2 with ⟨rfl, -⟩ | ⟨g, cap, cur, rfl, -⟩
  · exact .inl rfl
  · exact .inr ⟨_, _, _, rfl⟩
theorem Bys.cut {w : World} {g off n cap : Nat} {bs : List Nat} (h : Bys w (.slice (some ⟨g, off, none⟩) n cap) bs) {lo hi : Nat} (h1 : lo ≤ hi) (h2 : hi ≤ n) : Bys w (.slice (some ⟨g, off + lo, none⟩) (hi - lo) (cap - lo)) ((bs.drop lo).take (hi - lo)) := by
  have hl := h.len
  have hc := h.caps
  have hlen : ((bs.drop lo).take (hi - lo)).length = hi - lo := by rw [List.length_take, List.length_drop]; omega
  refine ⟨⟨some ⟨g, off + lo, none⟩, cap - lo, by rw [hlen], by rw [hlen]; omega, by omega, fun _ => ⟨_, _, rfl⟩, fun g' off' ha j u hu => ?_⟩, fun x hx => h.2.1 x (List.mem_of_mem_drop (List.mem_of_mem_take hx)), by rw [hlen]; have := h.2.2; omega⟩
  simp only [Option.some.injEq, Addr.mk.injEq, and_true] at ha
  obtain ⟨rfl, rfl⟩ := ha
  rw [List.getElem?_map] at hu
  obtain ⟨x, hx, rfl⟩ := Option.map_eq_some_iff.1 hu
  rw [List.getElem?_take] at hx
  split at hx
  · rw [List.getElem?_drop] at hx
    have := h.at hx
    rwa [Nat.add_assoc]
  · cases hx
theorem own_grow {w w' : World} {base n : Nat} {v : Value} {xs : List Value} (h : w.ownsRow base 5 1 v n xs) (g : w.grownBy w' v.ownBlock) {u : World} (hu : Ext u w) (hb : u.heap.size ≤ base) : Ext u w' :=
  Below.grown hu g (Nat.le_trans hu.size (Nat.le_refl _)) (fun k hk => by have := (h.lt k hk).1; omega)
/-- bytes put behind bytes of the call's own -/
theorem app_bys {ops : Array Oper} {rest : List Oper} {o : Oper} {a : Act} {Q : Exit → Act → World → Prop} {W : World} {base : Nat} (hgd : o.guard = none) (s y : Operand) (t : TypeId)
    (ho : o.op = .call { callee := .builtin .append, args := #[s, y], argTypes := #[t, t] }) (ht : Tryz.prog.underlying t = some (.slice 5))
    (v : Value) (n : Nat) (xs ys : List Nat) (u : Value) (hs : a.eval s = v) (hown : W.ownsRow base 5 1 v n (byC xs)) (hy : a.eval y = u) (hu : Bys W u ys) (hp : Plain u) (hb : base ≤ W.heap.size) (hn : 0 < n) (hm : n + ys.length ≤ 1000000000)
    (h : ∀ g cap w', w'.ownsRow base 5 1 (.slice (some ⟨g, 0, none⟩) (n + ys.length) cap) (n + ys.length) (byC (xs ++ ys)) → W.grownBy w' v.ownBlock → wpList Tryz.prog ops Q rest (a.put o.dst (.slice (some ⟨g, 0, none⟩) (n + ys.length) cap)) w') :
    wpList Tryz.prog ops Q (o :: rest) a W := by
  obtain ⟨i0, hi, hz0, hz1, hz2⟩ := info_parts infoU8
  have hbc : byC (xs ++ ys) = byC xs ++ byC ys := by simp [byC]
  rcases hp with rfl | ⟨ad, m, c, rfl⟩
  · have hl := hu.len
    have hnil : ys = [] := List.eq_nil_of_length_eq_zero hl.symm
    subst hnil
    obtain ⟨g, cap, rfl⟩ : ∃ g cap, v = .slice (some ⟨g, 0, none⟩) n cap := by
      rcases hown.2 with ⟨-, h0⟩ | ⟨g, cap, cur, e, -⟩
      · omega
      · exact ⟨g, cap, e⟩
    refine wpList_append_own_none hgd s y t ho base 5 i0 1 ht hi _ n (byC xs) hs hown hy ?_
    have := h g cap W (by simpa using hown) (World.grownBy.refl _ _)
    simpa using this
  · have hl := hu.len
    subst hl
    have hnews : ∀ j u, (byC ys)[j]? = some u → W.cell? (ad.add j) = some u := by
      intro j u hj
      obtain ⟨a', cap', e, h1, h2, h3, h4⟩ := hu.1
      simp only [Value.slice.injEq] at e
      obtain ⟨e1, -, -⟩ := e
      have hj0 : 0 < ys.length := by
        unfold byC at hj
        rw [List.getElem?_map] at hj
        obtain ⟨x, hx, -⟩ := Option.map_eq_some_iff.1 hj
        have := (List.getElem?_eq_some_iff.1 hx).1
        omega
      obtain ⟨g, off, e2⟩ := h3 hj0
      rw [← e1] at e2
      obtain rfl := Option.some.inj e2
      have hadd : (⟨g, off, none⟩ : Addr).add j = ⟨g, off + j, none⟩ := by unfold Addr.add; split <;> simp_all
      rw [hadd]
      exact h4 g off e1.symm j u hj
    refine wpList_append_own _ hgd s y t ho base 5 i0 (.int .u8 0) 1 1 ht hi hz0 hz1 hz2 rfl (by decide) v n (byC xs) hs hown ad ys.length c (byC ys) hy (by rw [byC_length, Nat.mul_one]) hnews (byC_one ys) (by unfold maxLen; omega) (by omega) hb ?_
    intro v' w' h1 h2 _
    obtain ⟨g, cap, rfl⟩ : ∃ g cap, v' = .slice (some ⟨g, 0, none⟩) (n + ys.length) cap := by
      rcases h1.2 with ⟨-, h0⟩ | ⟨g, cap, cur, e, -⟩
      · omega
      · exact ⟨g, cap, e⟩
    exact h g cap w' (by rw [hbc]; exact h1) h2
/-- .. out of a block that was just made -/
theorem app_new {ops : Array Oper} {rest : List Oper} {o : Oper} {a : Act} {Q : Exit → Act → World → Prop} {W : World} {base : Nat} (hgd : o.guard = none) (s y : Operand) (t : TypeId)
    (ho : o.op = .call { callee := .builtin .append, args := #[s, y], argTypes := #[t, t] }) (ht : Tryz.prog.underlying t = some (.slice 5))
    (v : Value) (n : Nat) (xs ys : List Nat) (hs : a.eval s = v) (hown : W.ownsRow base 5 1 v n (byC xs)) (hy : a.eval y = .slice (some ⟨W.heap.size, 0, none⟩) ys.length ys.length) (hl : 0 < ys.length) (hb : base ≤ W.heap.size) (hm : n + ys.length ≤ 1000000000)
    (h : ∀ g cap w', w'.ownsRow base 5 1 (.slice (some ⟨g, 0, none⟩) (n + ys.length) cap) (n + ys.length) (byC (xs ++ ys)) → W.grownBy w' v.ownBlock → wpList Tryz.prog ops Q rest (a.put o.dst (.slice (some ⟨g, 0, none⟩) (n + ys.length) cap)) w') :
    wpList Tryz.prog ops Q (o :: rest) a (W.alloc (.cells (byC ys).toArray 5)) := by
  obtain ⟨i0, hi, hz0, hz1, hz2⟩ := info_parts infoU8
  have hbc : byC (xs ++ ys) = byC xs ++ byC ys := by simp [byC]
  refine wpList_append_own _ hgd s y t ho base 5 i0 (.int .u8 0) 1 1 ht hi hz0 hz1 hz2 rfl (by decide) v n (byC xs) hs (hown.alloc _) ⟨W.heap.size, 0, none⟩ ys.length ys.length (byC ys) hy (by rw [byC_length, Nat.mul_one]) ?_ (byC_one ys) (by unfold maxLen; omega) (by omega) (by simp; omega) ?_
  · intro j u hj
    have hadd : (⟨W.heap.size, 0, none⟩ : Addr).add j = ⟨W.heap.size, j, none⟩ := by unfold Addr.add; split <;> simp_all
    rw [hadd]
    have e : (W.alloc (.cells (byC ys).toArray 5)).heap[W.heap.size]? = some (.cells (byC ys).toArray 5 (0, 0)) := heap_alloc_new W _
    simp only [World.cell?, e]
    simpa using hj
  intro v' w' h1 h2 _
  have g := World.grownBy_alloc W (.cells (byC ys).toArray 5) v.ownBlock
  have hg : W.grownBy w' v.ownBlock := ⟨h2.os.trans g.os, h2.tape.trans g.tape, h2.output.trans g.output, Nat.le_trans g.size h2.size, fun k hk hne => (h2.block k (Nat.lt_of_lt_of_le hk g.size) hne).trans (g.block k hk hne)⟩
  obtain ⟨gg, cap, rfl⟩ : ∃ gg cap, v' = .slice (some ⟨gg, 0, none⟩) (n + ys.length) cap := by
    rcases h1.2 with ⟨-, h0⟩ | ⟨gg, cap, cur, e, -⟩
    · omega
    · exact ⟨gg, cap, e⟩
  exact h gg cap w' (by rw [hbc]; exact h1) hg
theorem size_any (n : Int) (w : World) (h : -4611686018427387904 ≤ n ∧ n ≤ 4611686018427387904) : Calls Tryz.prog 67 #[.int .i64 n] w fun e w' => e = .returned (.int .i64 (n + 8)) ∧ w = w' := by
  have j1 : IntKind.i64.wrap (n + 4) = n + 4 := by rw [IntKind.wrap_i64]; omega
  have j2 : IntKind.i64.wrap (n + 4 + 4) = n + 8 := by rw [IntKind.wrap_i64]; omega
  go_enter Tryz.func67, Tryz.ntmps67
  go_wp2
  go_ret
  exact ⟨rfl, rfl⟩
/-- bytes that are all nought -/
def zeroB (n : Nat) : List Nat := List.replicate n 0
theorem made_zero (n : Nat) : (madeCells (Value.int .u8 0).cells (n * 1)).toList = byC (zeroB n) := by
  apply List.ext_getElem?
  intro i
  simp only [madeCells, byC, zeroB, Value.cells, Nat.mul_one]
  by_cases hi : i < n
  · simp [hi, Nat.mod_one]
  · simp [hi]
theorem fill_any (n : Int) (w : World) : Calls Tryz.prog 74 #[.int .i64 n] w fun e w' => ∃ u, e = .returned u ∧ w'.ownsRow w.heap.size 5 1 u (max 0 (min n 65536)).toNat (byC (zeroB (max 0 (min n 65536)).toNat)) ∧ Ext w w' := by
  obtain ⟨i0, hi, hz0, hz1, hz2⟩ := info_parts infoU8
  obtain ⟨m, hm⟩ : ∃ m : Nat, m = (max 0 (min n 65536)).toNat := ⟨_, rfl⟩
  rw [← hm]
  obtain ⟨a, ha⟩ : ∃ a, min n 65536 = a := ⟨_, rfl⟩
  have hb : max 0 a = (m : Int) := by omega
  have hm6 : m ≤ 65536 := by omega
  have r1 := mn2
  have r2 := mx2
  clear hm
  have ha' := ha
  clear ha'
  go_enter Tryz.func74, Tryz.ntmps74
  go_wp2_with (at_make; refine wpList_make_full _ rfl _ _ 30 rfl w.heap.size 5 i0 (.int .u8 0) 1 Tryz.underlying30 hi hz0 hz1 .i64 .i64 _ _ m rfl rfl rfl rfl (by rw [hz2]; omega) (by unfold maxLen; omega) (Nat.le_refl _) ?_; intro w2 hown hgrow)
  go_ret
  exact ⟨_, rfl, by rw [← made_zero]; exact hown, Below.grown (Ext.refl w) hgrow (Nat.le_refl _) (fun k hk => by cases hk)⟩
end Go.Proofs.YtlaedbglclmheaaGreatDoor

/- unit.Make: its contract over this seat's translation. -/
namespace Go.Proofs.YtlaedbglclmheaaGreatDoor
set_option linter.unusedVariables false
set_option linter.unusedSimpArgs false
open Go.RowKit Go.Extern.Stop Go.Stop Go.Extern

/-- why no unit is made; its head; its bytes -/
def ukF (kind : Int) (n : Nat) : Fall := if kind < 0 ∨ 255 < kind ∨ (kind = 0 ∧ 0 < n) then some ([], 13) else if 65536 < n then some ([], 5) else none
def hdB (kind : Nat) (data : List Nat) : List Nat := kind :: (be3 data.length ++ data)
def encB (kind : Nat) (data : List Nat) : List Nat := if kind = 0 then [0] else hdB kind data ++ be4 (crc (hdB kind data))
def ukV (kind : Int) (data : List Nat) : List Nat := match ukF kind data.length with
  | none => encB kind.toNat data
  | some _ => []
theorem hdB_len (kind : Nat) (data : List Nat) : (hdB kind data).length = data.length + 4 := by unfold hdB be3; simp
theorem hdB_lt {kind : Nat} {data : List Nat} (hk : kind < 256) (hd : ∀ x ∈ data, x < 256) (hl : data.length ≤ 65536) : ∀ x ∈ hdB kind data, x < 256 := by
  intro x hx
  unfold hdB at hx
  rcases List.mem_cons.1 hx with rfl | hx
  · exact hk
  · rcases List.mem_append.1 hx with hx | hx
    · exact be3_lt (by omega) x hx
    · exact hd x hx
theorem encB_lt {kind : Nat} {data : List Nat} (hk : kind < 256) (hd : ∀ x ∈ data, x < 256) (hl : data.length ≤ 65536) : ∀ x ∈ encB kind data, x < 256 := by
  intro x hx
  unfold encB at hx
  split at hx
  · simp at hx; omega
  · rcases List.mem_append.1 hx with hx | hx
    · exact hdB_lt hk hd hl x hx
    · exact be4_lt (crc_lt (hdB_lt hk hd hl)) x hx
theorem encB_len {kind : Nat} {data : List Nat} : (encB kind data).length = if kind = 0 then 1 else data.length + 8 := by
  unfold encB
  split
  · rfl
  · rw [List.length_append, hdB_len]; rfl
/-- bytes of the call's own and an error -/
def MPost (w : World) (bs : List Nat) (f : Fall) (e : Ending) (w' : World) : Prop := ∃ u x, e = .returned (.tuple #[u, x]) ∧ w'.ownsRow w.heap.size 5 1 u bs.length (byC bs) ∧ ErrIs w' f x ∧ Ext w w'
set_option maxHeartbeats 8000000 in
set_option maxRecDepth 20000 in
theorem make_any (kind : Int) (data : List Nat) (v : Value) (w : World) (hn : NbIs w) (h : Bys w v data) (hp : Plain v) : Calls Tryz.prog 48 #[.int .i64 kind, v] w (MPost w (ukV kind data) (ukF kind data.length)) := by
  obtain ⟨a, cap, rfl⟩ := h.form
  have HB := Lib.hid h
  have hl := h.2.2
  have HD := Lib.hid h.2.1
  obtain ⟨n, hn'⟩ : ∃ n, data.length = n := ⟨_, rfl⟩
  have HN := Lib.hid hn'
  have HB2 : Hid (Bys w (.slice a n cap) data) := by show Bys _ _ _; rw [← hn']; exact h
  have HP : Hid (Plain (.slice a n cap)) := by show Plain _; rw [← hn']; exact hp
  rw [hn'] at hl ⊢
  clear h hn' hp
  by_cases h1 : kind < 0
  · have HF : Hid (ukF kind n = some ([], 13)) := by show _ = _; unfold ukF; rw [if_pos (.inl h1)]
    have HV : Hid (ukV kind data = []) := by show _ = _; unfold ukV; rw [HN.out, HF.out]
    go_enter Tryz.func48, Tryz.ntmps48
    go_wp2
    go_ret2
    exact ⟨_, _, rfl, by rw [HV.out]; exact World.ownsRow_nil _ _ _ _, by rw [HF.out]; exact ErrIs.code (by decide), Ext.refl _⟩
  · by_cases h2 : 255 < kind
    · have HF : Hid (ukF kind n = some ([], 13)) := by show _ = _; unfold ukF; rw [if_pos (.inr (.inl h2))]
      have HV : Hid (ukV kind data = []) := by show _ = _; unfold ukV; rw [HN.out, HF.out]
      go_enter Tryz.func48, Tryz.ntmps48
      go_wp2
      go_ret2
      exact ⟨_, _, rfl, by rw [HV.out]; exact World.ownsRow_nil _ _ _ _, by rw [HF.out]; exact ErrIs.code (by decide), Ext.refl _⟩
    · by_cases h0 : kind = 0
      · subst h0
        by_cases h3 : 0 < n
        · have HF : Hid (ukF 0 n = some ([], 13)) := by show _ = _; unfold ukF; rw [if_pos (.inr (.inr ⟨rfl, h3⟩))]
          have h3' : (0 : Int) < (n : Int) := by omega
          have HV : Hid (ukV 0 data = []) := by show _ = _; unfold ukV; rw [HN.out, HF.out]
          go_enter Tryz.func48, Tryz.ntmps48
          go_wp2
          go_ret2
          exact ⟨_, _, rfl, by rw [HV.out]; exact World.ownsRow_nil _ _ _ _, by rw [HF.out]; exact ErrIs.code (by decide), Ext.refl _⟩
        · obtain rfl : n = 0 := by omega
          have HF : Hid (ukF 0 0 = none) := by show _ = _; decide
          have HV : Hid (ukV 0 data = [0]) := by show _ = _; unfold ukV; rw [HN.out, HF.out]; rfl
          have HO : Hid ((w.alloc (.cells #[.int .u8 0] 5)).ownsRow w.heap.size 5 1 (.slice (some ⟨w.heap.size, 0, none⟩) 1 1) 1 (byC [0])) := ⟨rfl, .inr ⟨w.heap.size, 1, #[.int .u8 0], rfl, Nat.le_refl _, heap_alloc_new w _, Nat.le_refl _, by decide, rfl, rfl⟩⟩
          go_enter Tryz.func48, Tryz.ntmps48
          go_wp2
          go_ret2
          exact ⟨_, _, rfl, by rw [HV.out]; exact HO.out, by rw [HF.out]; rfl, (Ext.refl w).alloc _⟩
      · obtain ⟨k, rfl⟩ : ∃ k : Nat, kind = (k : Int) := ⟨kind.toNat, by omega⟩
        have k0 : ((k : Int) == 0) = false := by rw [beq_eq_false_iff_ne]; omega
        by_cases h4 : 65536 < n
        · have HF : Hid (ukF (k : Int) n = some ([], 5)) := by show _ = _; unfold ukF; rw [if_neg (by omega), if_pos h4]
          have h4' : (65536 : Int) < (n : Int) := by omega
          have HV : Hid (ukV (k : Int) data = []) := by show _ = _; unfold ukV; rw [HN.out, HF.out]
          go_enter Tryz.func48, Tryz.ntmps48
          go_wp2
          go_ret2
          exact ⟨_, _, rfl, by rw [HV.out]; exact World.ownsRow_nil _ _ _ _, by rw [HF.out]; exact ErrIs.code (by decide), Ext.refl _⟩
        · have HF : Hid (ukF (k : Int) n = none) := by show _ = _; unfold ukF; rw [if_neg (by omega), if_neg h4]
          have HV : Hid (ukV (k : Int) data = hdB k data ++ be4 (crc (hdB k data))) := by show _ = _; unfold ukV; rw [HN.out, HF.out]; show encB _ _ = _; unfold encB; rw [if_neg (by omega)]; rfl
          obtain ⟨i0, hi, hz0, hz1, hz2⟩ := info_parts infoU8
          have hhl := hdB_lt (kind := k) (data := data) (by omega) HD.out (by rw [HN.out]; omega)
          have hs := crc_lt hhl
          have HHL := Lib.hid hhl
          have HH : Hid (hdB k data = [k, n / 65536, n / 256 % 256, n % 256] ++ data) := by show _ = _; unfold hdB be3; rw [HN.out]; rfl
          have HLN : Hid ((hdB k data).length = n + 4) := by show _ = _; rw [hdB_len, HN.out]
          obtain ⟨hd, hhd⟩ : ∃ hd, hdB k data = hd := ⟨_, rfl⟩
          rw [hhd] at HV HH HHL HLN hs
          obtain ⟨s, hss⟩ : ∃ s, crc hd = s := ⟨_, rfl⟩
          have HSS := Lib.hid hss
          rw [hss] at hs
          have HB4 : Hid (be4 s = [s / 16777216, s / 65536 % 256, s / 256 % 256, s % 256]) := rfl
          rw [hss] at HV
          obtain ⟨p1, e1⟩ : ∃ p1, n / 65536 = p1 := ⟨_, rfl⟩
          obtain ⟨q1, f1⟩ : ∃ q1, n / 256 = q1 := ⟨_, rfl⟩
          obtain ⟨p2, e2⟩ : ∃ p2, q1 % 256 = p2 := ⟨_, rfl⟩
          obtain ⟨p3, e3⟩ : ∃ p3, n % 256 = p3 := ⟨_, rfl⟩
          rw [e1, f1, e2, e3] at HH
          have m1 : (n : Int) / 65536 = (p1 : Int) := by omega
          have m2 : (n : Int) / 256 = (q1 : Int) := by omega
          have m3 : IntKind.u8.wrap (p1 : Int) = (p1 : Int) := by rw [IntKind.wrap_u8]; omega
          have m4 : IntKind.u8.wrap (q1 : Int) = (p2 : Int) := by rw [IntKind.wrap_u8]; omega
          have m5 : IntKind.u8.wrap (n : Int) = (p3 : Int) := by rw [IntKind.wrap_u8]; omega
          have m6 : IntKind.u8.wrap (k : Int) = (k : Int) := by rw [IntKind.wrap_u8]; omega
          have m7 : IntKind.i64.wrap (p1 : Int) = (p1 : Int) := by rw [IntKind.wrap_i64]; omega
          have m8 : IntKind.i64.wrap (q1 : Int) = (q1 : Int) := by rw [IntKind.wrap_i64]; omega
          obtain ⟨s1, g1⟩ : ∃ s1, s / 16777216 = s1 := ⟨_, rfl⟩
          obtain ⟨t2, g2⟩ : ∃ t2, s / 65536 = t2 := ⟨_, rfl⟩
          obtain ⟨s2, g3⟩ : ∃ s2, t2 % 256 = s2 := ⟨_, rfl⟩
          obtain ⟨t3, g4⟩ : ∃ t3, s / 256 = t3 := ⟨_, rfl⟩
          obtain ⟨s3, g5⟩ : ∃ s3, t3 % 256 = s3 := ⟨_, rfl⟩
          obtain ⟨s4, g6⟩ : ∃ s4, s % 256 = s4 := ⟨_, rfl⟩
          rw [g1, g2, g3, g4, g5, g6] at HB4
          have o1 : (s : Int) / 16777216 = (s1 : Int) := by omega
          have o2 : (s : Int) / 65536 = (t2 : Int) := by omega
          have o3 : (s : Int) / 256 = (t3 : Int) := by omega
          have o4 : IntKind.u8.wrap (s1 : Int) = (s1 : Int) := by rw [IntKind.wrap_u8]; omega
          have o5 : IntKind.u8.wrap (t2 : Int) = (s2 : Int) := by rw [IntKind.wrap_u8]; omega
          have o6 : IntKind.u8.wrap (t3 : Int) = (s3 : Int) := by rw [IntKind.wrap_u8]; omega
          have o7 : IntKind.u8.wrap (s : Int) = (s4 : Int) := by rw [IntKind.wrap_u8]; omega
          have o8 : IntKind.u32.wrap (s1 : Int) = (s1 : Int) := by rw [IntKind.wrap_u32]; omega
          have o9 : IntKind.u32.wrap (t2 : Int) = (t2 : Int) := by rw [IntKind.wrap_u32]; omega
          have oA : IntKind.u32.wrap (t3 : Int) = (t3 : Int) := by rw [IntKind.wrap_u32]; omega
          have n4 : ¬ (65536 : Int) < (n : Int) := by omega
          have SZ := Lib.hid (fun w => size_any (n : Int) w (by omega))
          have HNB := Lib.hid hn
          clear hhl hhd hss e1 f1 e2 e3 g1 g2 g3 g4 g5 g6 hn
          have hn8 : ((n : Int) + 8) = ((n + 8 : Nat) : Int) := by omega
          rw [hn8] at SZ
          obtain ⟨n8, e8⟩ : ∃ n8, n + 8 = n8 := ⟨_, rfl⟩
          rw [e8] at SZ
          have hn8b : n8 ≤ 65544 := by omega
          clear hn8 e8
          go_enter Tryz.func48, Tryz.ntmps48
          go_wp2_with (first
            | (go_at_call 67; refine (SZ.out _).mono ?_; rintro e w1 ⟨rfl, rfl⟩)
            | (go_at_call 96; refine (sum_any hd _ _ (HNB.out.ext HE6.out) HY6.out).mono ?_; rintro e w9 ⟨rfl, rfl⟩; rw [HSS.out])
            | (at_make; refine wpList_make_own _ rfl _ _ 30 rfl w.heap.size 5 i0 (.int .u8 0) 1 Tryz.underlying30 hi hz0 hz1 .i64 .i64 _ n8 rfl rfl rfl (by rw [hz2]; omega) (by unfold maxLen; omega) (Nat.le_refl _) ?_; intro w4 h1 h2; have HO4 := Lib.hid h1; have HE4 := Lib.hid (Below.grown (Ext.refl w) h2 (Nat.le_refl _) (fun k hk => by cases hk)); have hs4 := h2.size; clear h1 h2)
            | (at_builtin; refine app_new rfl _ _ 30 rfl Tryz.underlying30 _ 0 [] [k, p1, p2, p3] rfl HO4.out (by show Value.slice (some ⟨w4.heap.size, 0, none⟩) 4 4 = _; simp) (by simp) hs4 (by simp) ?_; intro g5 cap5 w5 h1 h2; have HO5 := Lib.hid h1; have HE5 := Lib.hid (own_grow HO4.out h2 HE4.out (Nat.le_refl _)); have hs5 := Nat.le_trans hs4 h2.size; clear h1 h2)
            | (at_builtin; refine app_bys rfl _ _ 30 rfl Tryz.underlying30 _ 4 [k, p1, p2, p3] data _ rfl HO5.out rfl (HB2.out.ext HE5.out) HP.out hs5 (by decide) (by rw [HN.out]; omega) ?_; rw [HN.out]; intro g6 cap6 w6 h1 h2; have HO6 : Hid (w6.ownsRow w.heap.size 5 1 (.slice (some ⟨g6, 0, none⟩) (4 + n) cap6) (4 + n) (byC hd)) := (by show World.ownsRow _ _ _ _ _ _ _; rw [HH.out]; exact h1); have HE6 := Lib.hid (own_grow HO5.out h2 HE5.out (Nat.le_refl _)); have hs6 := Nat.le_trans hs5 h2.size; have HY6 : Hid (Bys w6 (.slice (some ⟨g6, 0, none⟩) (4 + n) cap6) hd) := Bys.of_owns HO6.out HHL.out (by rw [HLN.out]; omega); clear h1 h2)
            | (at_builtin; refine app_new rfl _ _ 30 rfl Tryz.underlying30 _ (4 + n) hd [s1, s2, s3, s4] rfl HO6.out (by show Value.slice (some ⟨w6.heap.size, 0, none⟩) 4 4 = _; simp) (by simp) hs6 (by simp; omega) ?_; intro g7 cap7 w7 h1 h2; have HO7 := Lib.hid h1; have HE7 := Lib.hid (own_grow HO6.out h2 HE6.out (Nat.le_refl _)); clear h1 h2))
          go_ret2
          refine ⟨_, _, rfl, ?_, by rw [HF.out]; rfl, HE7.out⟩
          have h7 := HO7.out
          rw [HV.out, HB4.out]
          have e7 : (hd ++ [s1, s2, s3, s4]).length = 4 + n + 4 := by rw [List.length_append, HLN.out]; simp; omega
          rw [e7]
          exact h7
end Go.Proofs.YtlaedbglclmheaaGreatDoor

/- A result of type kinref.Err, kept in a variable of the call's own. -/
namespace Go.Proofs.YtlaedbglclmheaaGreatDoor
set_option linter.unusedVariables false
set_option linter.unusedSimpArgs false
open Go.RowKit Go.Extern.Stop Go.Stop Go.Extern
theorem res_cells {w : World} {B : Nat} {c : Int} (h0 : w.cell? ⟨B, 0, none⟩ = some (.int .i64 0)) (h1 : w.cell? ⟨B, 1, none⟩ = some (.slice none 0 0)) (v : Value) :
    ((w.setCell ⟨B, 0, none⟩ (.int .i64 c)).setCell ⟨B, 1, none⟩ v).cell? ⟨B, 0, none⟩ = some (.int .i64 c) ∧ ((w.setCell ⟨B, 0, none⟩ (.int .i64 c)).setCell ⟨B, 1, none⟩ v).cell? ⟨B, 1, none⟩ = some v := by
  have e0 := World.cell?_setCell_same _ _ (.int .i64 c) h0
  have e1 := (World.cell?_setCell_other w ⟨B, 0, none⟩ ⟨B, 1, none⟩ (.int .i64 c) (by simp)).trans h1
  have e2 := World.cell?_setCell_same _ _ v e1
  have e3 := (World.cell?_setCell_other (w.setCell ⟨B, 0, none⟩ (.int .i64 c)) ⟨B, 1, none⟩ ⟨B, 0, none⟩ v (by simp)).trans e0
  exact ⟨e3, e2⟩
/-- what such a variable holds behind calls -/
def ResAt (w : World) (B : Nat) : Prop := w.cell? ⟨B, 0, none⟩ = some (.int .i64 0) ∧ w.cell? ⟨B, 1, none⟩ = some (.slice none 0 0) ∧ w.frozen? ⟨B, 0, none⟩ = false ∧ w.frozen? ⟨B, 1, none⟩ = false
theorem ResAt.ext {w w' : World} {B : Nat} (h : ResAt w B) (k : Ext w w') : ResAt w' B := by
  obtain ⟨h0, h1, h2, h3⟩ := h
  exact ⟨k.cell h0, k.cell h1, (Below.frozen k (Ext.lt h0)).trans h2, (Below.frozen k (Ext.lt h1)).trans h3⟩
theorem ResAt.new (w : World) : ResAt (w.alloc (.cells #[.int .i64 0, .slice none 0 0] 38)) w.heap.size := by
  refine ⟨?_, ?_, ?_, ?_⟩ <;> simp
theorem ResAt.under {B b : Nat} {w w' : World} (h : ResAt w b) (k : Below B w w') (hb : b < B) : ResAt w' b := by
  obtain ⟨h0, h1, h2, h3⟩ := h
  exact ⟨(Below.cell k (p := ⟨b, 0, none⟩) hb).trans h0, (Below.cell k (p := ⟨b, 1, none⟩) hb).trans h1, (Below.frozen k (p := ⟨b, 0, none⟩) hb).trans h2, (Below.frozen k (p := ⟨b, 1, none⟩) hb).trans h3⟩
end Go.Proofs.YtlaedbglclmheaaGreatDoor

/- An append of a whole slice to one that the call itself made; kinref.In and kinref.Wrap: contracts over this seat's translation. -/
namespace Go.Proofs.YtlaedbglclmheaaGreatDoor
set_option linter.unusedVariables false
set_option linter.unusedSimpArgs false
open Go.RowKit

theorem run_append_none {P : Program} {w : World} (base : Nat) (t ty e : TypeId) (i : TypeInfo) (size : Nat) (ht : P.underlying t = some (.slice e)) (hi : P.info? e = some i)
    (v : Value) (n c : Nat) (xs : List Value) (hown : w.ownsRow base e size v n xs) :
    (Builtin.append_ #[t, t] ty #[v, .slice none 0 c]).run P w = .ok v w := by
  rcases hown.2 with ⟨rfl, rfl⟩ | ⟨g, cap, cur, rfl, _, _, hnc, _⟩
  · simp [Builtin.append_, run_underlying ht, sizeOf, typeInfo, hi, Builtin.lenOf, Builtin.firstCells]
  · simp [Builtin.append_, run_underlying ht, sizeOf, typeInfo, hi, Builtin.lenOf, Builtin.firstCells, hnc, storeCells]

theorem append_row {P : Program} {ops : Array Oper} {rest : List Oper} {o : Oper} {a : Act} {Q : Exit → Act → World → Prop} {W : World} {base : Nat} (hgd : o.guard = none) (s y : Operand) (t : TypeId)
    (ho : o.op = .call { callee := .builtin .append, args := #[s, y], argTypes := #[t, t] })
    (e : TypeId) (i : TypeInfo) (z : Value) (size bytes : Nat) (ht : P.underlying t = some (.slice e)) (hi : P.info? e = some i) (hz : i.zero = some z) (hsize : i.size = size) (hby : i.bytes = bytes) (hzs : z.cells.size = size) (hsz : 0 < size)
    (v : Value) (n : Nat) (xs : List Value) (hs : a.eval s = v) (hown : W.ownsRow base e size v n xs) (u : Value) (m : Nat) (news : List Value) (hx : a.eval y = u) (hr : Row W u m news) (hl : news.length = m * size) (h1 : ∀ x ∈ news, x.oneCell' = true)
    (hb : base ≤ W.heap.size) (h63 : n + m ≤ maxLen) (hbytes : (n + m) * bytes ≤ 140737488355328)
    (h : ∀ v' w', w'.ownsRow base e size v' (n + m) (xs ++ news) → Below base W w' → W.grownBy w' v.ownBlock → wpList P ops Q rest (a.put o.dst v') w') :
    wpList P ops Q (o :: rest) a W := by
  obtain ⟨a0, cap, rfl, hmc, hcm, hsome, hcells⟩ := hr
  cases a0 with
  | none =>
    have hm : m = 0 := by
      rcases Nat.eq_zero_or_pos m with h0 | h0
      · exact h0
      · obtain ⟨g, off, hg⟩ := hsome h0
        cases hg
    subst hm
    obtain rfl : news = [] := List.eq_nil_of_length_eq_zero (by simpa using hl)
    refine wpList_plain hgd fun K hK => ?_
    have hrun := run_append_none (P := P) (w := W) base t o.type e i size ht hi v n cap xs hown
    unfold Oper.wp
    simp [execOp, ho, resolve, invoke, builtin, hs, hx, hrun, Result.andThen]
    exact hK _ _ (h v W (by simpa using hown) (Below.refl _ _) ⟨rfl, rfl, rfl, Nat.le_refl _, fun _ _ _ => rfl⟩)
  | some ad =>
    have hnews : ∀ j x, news[j]? = some x → W.cell? (ad.add j) = some x := fun j x hj => by
      have hm : 0 < m := by
        rcases Nat.eq_zero_or_pos m with h0 | h0
        · subst h0
          obtain rfl : news = [] := List.eq_nil_of_length_eq_zero (by simpa using hl)
          simp at hj
        · exact h0
      obtain ⟨g, off, hg⟩ := hsome hm
      cases hg
      have hadd : (⟨g, off, none⟩ : Addr).add j = ⟨g, off + j, none⟩ := by unfold Addr.add; split <;> simp_all
      rw [hadd]
      exact hcells g off rfl j x hj
    refine wpList_append_own _ hgd s y t ho base e i z size bytes ht hi hz hsize hby hzs hsz v n xs hs hown ad m cap news hx hl hnews h1 h63 hbytes hb ?_
    intro v' w' h2 h3 _
    exact h v' w' h2 (Below.grown (Below.refl base W) h3 hb (fun k hk => (hown.lt k hk).1)) h3

theorem infoRStep : (Tryz.prog.info? 120).map (fun i => (i.zero, i.size, i.bytes)) = some (some (.agg #[.string .empty, .int .i64 0]), 2, 24) := by kernel_rfl
theorem step_one (p : List (ByteArray × Int)) : ∀ x ∈ stepCells p, x.oneCell' = true := by
  induction p with
  | nil => intro x hx; cases hx
  | cons a p ih =>
    obtain ⟨s, n⟩ := a
    intro x hx
    simp only [stepCells, List.mem_cons] at hx
    rcases hx with rfl | rfl | hx
    · rfl
    · rfl
    · exact ih x hx

theorem heap_alloc2 {w1 : World} {o o' : Go.Obj} : ((w1.alloc o).alloc o').heap[w1.heap.size + 1]? = some o' := by
  have := heap_alloc_new (w1.alloc o) o'
  simpa using this
theorem owns_base {w : World} {base b : Nat} {e : TypeId} {size : Nat} {v : Value} {n : Nat} {xs : List Value} (h : w.ownsRow base e size v n xs) (hb : b ≤ base) : w.ownsRow b e size v n xs := by
  obtain ⟨h1, h2⟩ := h
  refine ⟨h1, ?_⟩
  rcases h2 with h2 | ⟨g, cap, cur, hv, hg, r⟩
  · exact Or.inl h2
  · exact Or.inr ⟨g, cap, cur, hv, Nat.le_trans hb hg, r⟩
theorem owns_setCell_ne {w : World} {base : Nat} {e : TypeId} {size : Nat} {v : Value} {n : Nat} {xs : List Value} (h : w.ownsRow base e size v n xs) {p : Addr} (u : Value) (hne : ∀ cs, w.heap[p.block]? ≠ some (.cells cs e (0, 0))) : (w.setCell p u).ownsRow base e size v n xs := by
  obtain ⟨h1, h2⟩ := h
  refine ⟨h1, ?_⟩
  rcases h2 with h2 | ⟨g, cap, cur, hv, hg, hh, r⟩
  · exact Or.inl h2
  · exact Or.inr ⟨g, cap, cur, hv, hg, by rw [Below.heap_setCell _ _ _ _ (fun e => hne cur (by rw [← e]; exact hh))]; exact hh, r⟩
theorem in_facts {w1 w2 : World} {s : ByteArray} {n c : Int}
    (h3 : ((w1.alloc (.cells #[.string s, .int .i64 n] 120)).alloc (.cells #[.int .i64 c, .slice (some ⟨w1.heap.size, 0, none⟩) 1 1] 38)).grownBy w2 (Value.ownBlock (.slice (some ⟨w1.heap.size, 0, none⟩) 1 1))) :
    w2.cell? ⟨w1.heap.size + 1, 0, none⟩ = some (.int .i64 c) ∧ w2.cell? ⟨w1.heap.size + 1, 1, none⟩ = some (.slice (some ⟨w1.heap.size, 0, none⟩) 1 1) ∧ w2.frozen? ⟨w1.heap.size + 1, 1, none⟩ = false ∧ w2.frozen? ⟨w1.heap.size + 1, 0, none⟩ = false ∧ ∀ cs, w2.heap[w1.heap.size + 1]? ≠ some (.cells cs 120 (0, 0)) := by
  refine ⟨?_, ?_, ?_, ?_, ?_⟩
  · exact h3.cell (a := ⟨w1.heap.size + 1, 0, none⟩) (v := .int .i64 c) (by simp) (by simp [Value.ownBlock])
  · exact h3.cell (a := ⟨w1.heap.size + 1, 1, none⟩) (v := .slice (some ⟨w1.heap.size, 0, none⟩) 1 1) (by simp) (by simp [Value.ownBlock])
  · exact (h3.frozen_far ⟨w1.heap.size + 1, 1, none⟩ (by simp) (by simp [Value.ownBlock])).trans (by simp)
  · exact (h3.frozen_far ⟨w1.heap.size + 1, 0, none⟩ (by simp) (by simp [Value.ownBlock])).trans (by simp)
  · intro cs e
    rw [h3.block (w1.heap.size + 1) (by simp) (by simp [Value.ownBlock]), heap_alloc2] at e
    simp at e

set_option maxHeartbeats 1000000 in
set_option maxRecDepth 20000 in
/-- kinref.In of an error -/
theorem refIn_err (s : ByteArray) (n c : Int) (rv : Value) (p : List (ByteArray × Int)) (w : World) (hr : Row w rv p.length (stepCells p)) (hc : c ≠ 0) (hp : p.length ≤ 1000000) :
    Calls Tryz.prog 66 #[.string s, .int .i64 n, .agg #[.int .i64 c, rv]] w fun e w' => ∃ u, e = .returned (.agg #[.int .i64 c, u]) ∧ w'.ownsRow w.heap.size 120 2 u (p.length + 1) (stepCells ((s, n) :: p)) ∧ Ext w w' := by
  have hc0 : (c == 0) = false := by simpa using hc
  have E1 : Ext w (w.alloc (.cells #[.int .i64 c, rv] 38)) := (Ext.refl w).alloc _
  obtain ⟨i0, hi, hz0, hz1, hz2⟩ := info_parts infoRStep
  go_enter Tryz.func66, Tryz.ntmps66
  go_wp2_with fail
  refine (ok_any c rv _).mono ?_; rintro e w1 ⟨rfl, hx⟩
  have b0 := hx.cell (p := ⟨w.heap.size, 0, none⟩) (v := .int .i64 c) (by simp)
  have b1 := hx.cell (p := ⟨w.heap.size, 1, none⟩) (v := rv) (by simp)
  have r0 := hx.cell (p := ⟨w.heap.size + 1, 0, none⟩) (v := .int .i64 0) (by simp)
  have r1 := hx.cell (p := ⟨w.heap.size + 1, 1, none⟩) (v := .slice none 0 0) (by simp)
  have f0 : w1.frozen? ⟨w.heap.size + 1, 0, none⟩ = false := (Below.frozen hx (by simp)).trans (by simp)
  have f1 : w1.frozen? ⟨w.heap.size + 1, 1, none⟩ = false := (Below.frozen hx (by simp)).trans (by simp)
  have hsz : w.heap.size + 1 < w1.heap.size := Ext.lt r0
  have hE : Ext w w1 := (E1.alloc _).trans hx
  have hr1 := hr.ext hE
  have hown := World.ownsRow_lit (e := 120) (base := w1.heap.size) (size := 2) w1 #[.string s, .int .i64 n] 1 (Nat.le_refl _) (by unfold maxLen; omega) rfl
  clear hx hr
  have HC := Lib.hid hc
  clear hc
  have E3 : Ext w1 ((w1.alloc (.cells #[.string s, .int .i64 n] 120)).alloc (.cells #[.int .i64 c, .slice (some ⟨w1.heap.size, 0, none⟩) 1 1] 38)) := ((Ext.refl w1).alloc _).alloc _
  have b1' := E3.cell b1
  have fr0 : ((w1.alloc (.cells #[.string s, .int .i64 n] 120)).alloc (.cells #[.int .i64 c, .slice (some ⟨w1.heap.size, 0, none⟩) 1 1] 38)).frozen? ⟨w.heap.size + 1, 0, none⟩ = false := (Below.frozen E3 (by simp; omega)).trans f0
  have fr1 : ((w1.alloc (.cells #[.string s, .int .i64 n] 120)).alloc (.cells #[.int .i64 c, .slice (some ⟨w1.heap.size, 0, none⟩) 1 1] 38)).frozen? ⟨w.heap.size + 1, 1, none⟩ = false := (Below.frozen E3 (by simp; omega)).trans f1
  have cr0 := E3.cell r0
  have cr1 := E3.cell r1
  clear b1
  go_wp2_with (at_builtin; refine append_row rfl _ _ 36 rfl 120 i0 _ 2 24 Tryz.underlying36 hi hz0 hz1 hz2 rfl (by decide) (.slice (some ⟨w1.heap.size, 0, none⟩) 1 1) 1 [.string s, .int .i64 n] rfl (hown.alloc _) rv p.length (stepCells p) rfl (hr1.ext E3) (stepCells_length p) (step_one p) (by simp; omega) (by unfold maxLen; omega) (by omega) ?_; intro v' w2 h1 h2 h3; obtain ⟨ga, gcap, rfl⟩ := (Row.of_owns h1).form; obtain ⟨g0, g1, g2, g3, g4⟩ := in_facts h3; have q0 := Below.cellv h2 cr0 (by simp; omega); have q1 := Below.cellv h2 cr1 (by simp; omega); have q2 := (Below.frozen h2 (p := ⟨w.heap.size + 1, 0, none⟩) (by simp; omega)).trans fr0; have q3 := (Below.frozen h2 (p := ⟨w.heap.size + 1, 1, none⟩) (by simp; omega)).trans fr1)
  refine bodyPost_ret (v := .agg #[.int .i64 c, .slice ga (1 + p.length) gcap]) ?_ rfl ⟨_, rfl, ?_, ?_⟩
  · have e0 : (w2.setCell ⟨w1.heap.size + 1, 1, none⟩ (.slice ga (1 + p.length) gcap)).cell? ⟨w.heap.size + 1, 0, none⟩ = some (.int .i64 0) := (World.cell?_setCell_other _ _ _ _ (by simp <;> omega)).trans q0
    have e1 : (w2.setCell ⟨w1.heap.size + 1, 1, none⟩ (.slice ga (1 + p.length) gcap)).cell? ⟨w.heap.size + 1, 1, none⟩ = some (.slice none 0 0) := (World.cell?_setCell_other _ _ _ _ (by simp <;> omega)).trans q1
    have e2 := World.cell?_setCell_same _ _ (.int .i64 c) e0
    have e3 := (World.cell?_setCell_other (w2.setCell ⟨w1.heap.size + 1, 1, none⟩ (.slice ga (1 + p.length) gcap)) ⟨w.heap.size + 1, 0, none⟩ ⟨w.heap.size + 1, 1, none⟩ (.int .i64 c) (by simp)).trans e1
    have e4 := World.cell?_setCell_same _ _ (.slice ga (1 + p.length) gcap) e3
    have e5 := (World.cell?_setCell_other ((w2.setCell ⟨w1.heap.size + 1, 1, none⟩ (.slice ga (1 + p.length) gcap)).setCell ⟨w.heap.size + 1, 0, none⟩ (.int .i64 c)) ⟨w.heap.size + 1, 1, none⟩ ⟨w.heap.size + 1, 0, none⟩ (.slice ga (1 + p.length) gcap) (by simp)).trans e2
    simp [results, Tryz.results66, go_sem, e4, e5]
  · rw [show p.length + 1 = 1 + p.length from Nat.add_comm _ _]
    have o1 := owns_setCell_ne h1 (p := ⟨w1.heap.size + 1, 1, none⟩) (.slice ga (1 + p.length) gcap) g4
    have o2 := ownsRow_setCell_below o1 (a := ⟨w.heap.size + 1, 0, none⟩) hsz (.int .i64 c)
    have o3 := ownsRow_setCell_below o2 (a := ⟨w.heap.size + 1, 1, none⟩) hsz (.slice ga (1 + p.length) gcap)
    exact owns_base o3 (show w.heap.size ≤ w1.heap.size by omega)
  · exact ((hE.trans ((E3.of_below h2 (Nat.le_refl _)).setCell (by simp) _)).setCell (by simp) _).setCell (by simp) _

theorem wrap_any (s : ByteArray) (n c : Int) (w : World) (hc : c ≠ 0) :
    Calls Tryz.prog 47 #[.string s, .int .i64 n, .int .i64 c] w fun e w' => ∃ u, e = .returned (.agg #[.int .i64 c, u]) ∧ w'.ownsRow w.heap.size 120 2 u 1 (stepCells [(s, n)]) ∧ Ext w w' := by
  have HC := Lib.hid hc
  clear hc
  go_enter Tryz.func47, Tryz.ntmps47
  go_wp2_with fail
  refine (fail_any c _).mono ?_; rintro e w1 ⟨rfl, hx1⟩
  have r0 := hx1.cell (p := ⟨w.heap.size, 0, none⟩) (v := .int .i64 0) (by simp)
  have r1 := hx1.cell (p := ⟨w.heap.size, 1, none⟩) (v := .slice none 0 0) (by simp)
  have f0 : w1.frozen? ⟨w.heap.size, 0, none⟩ = false := (Below.frozen hx1 (by simp)).trans (by simp)
  have f1 : w1.frozen? ⟨w.heap.size, 1, none⟩ = false := (Below.frozen hx1 (by simp)).trans (by simp)
  go_wp2_with fail
  refine (refIn_err s n c _ [] _ (Row.nil _) HC.out (by simp)).mono ?_; rintro e w2 ⟨u, rfl, hr, hx2⟩
  obtain ⟨ga, gcap, rfl⟩ := (Row.of_owns hr).form
  have s0 := hx2.cell r0
  have s1 := hx2.cell r1
  have k0 := (Below.frozen hx2 (Ext.lt r0)).trans f0
  have k1 := (Below.frozen hx2 (Ext.lt r1)).trans f1
  have hE : Ext w w2 := ((Ext.refl w).alloc _).trans (hx1.trans hx2)
  go_wp2
  refine bodyPost_ret (v := .agg #[.int .i64 c, .slice ga 1 gcap]) ?_ rfl ⟨_, rfl, ?_, ?_⟩
  · have e0 := World.cell?_setCell_same _ _ (.int .i64 c) s0
    have e1 := (World.cell?_setCell_other w2 ⟨w.heap.size, 0, none⟩ ⟨w.heap.size, 1, none⟩ (.int .i64 c) (by simp)).trans s1
    have e2 := World.cell?_setCell_same _ _ (.slice ga 1 gcap) e1
    have e3 := (World.cell?_setCell_other (w2.setCell ⟨w.heap.size, 0, none⟩ (.int .i64 c)) ⟨w.heap.size, 1, none⟩ ⟨w.heap.size, 0, none⟩ (.slice ga 1 gcap) (by simp)).trans e0
    simp [results, Tryz.results47, go_sem, e2, e3]
  · have hlt : w.heap.size < w1.heap.size := Ext.lt r0
    exact owns_base (ownsRow_setCell_below (ownsRow_setCell_below hr hlt _) hlt _) (by omega)
  · exact (hE.setCell (Nat.le_refl _) _).setCell (Nat.le_refl _) _
end Go.Proofs.YtlaedbglclmheaaGreatDoor

/- Bytes as strings; kinref.Bytes: its contract over this seat's translation. -/
namespace Go.Proofs.YtlaedbglclmheaaGreatDoor
set_option linter.unusedVariables false
set_option linter.unusedSimpArgs false
open Go.RowKit Go.Extern.Stop Go.Stop Go.Extern

def strOf (bs : List Nat) : ByteArray := strOfNums (bs.map fun x : Nat => (x : Int))
theorem conv_bys {w : World} {a : Option Addr} {n cap : Nat} {bs : List Nat} (h : Bys w (.slice a n cap) bs) : (convert 30 9 (.slice a n cap)).run Tryz.prog w = .ok (.string (strOf bs)) w := by
  have hl := h.len
  by_cases h0 : n = 0
  · subst h0
    obtain rfl : bs = [] := List.eq_nil_of_length_eq_zero hl.symm
    rw [run_convert_bytes_string w 30 9 5 _ 0 cap Tryz.underlying30 Tryz.underlying5 Tryz.underlying9]
    cases a <;> simp [Conv.bytesToString, loadCells]
    all_goals rfl
  · obtain ⟨g, off, rfl⟩ := h.had (by omega)
    refine run_convert_bytes_arg w 30 5 Tryz.underlying30 Tryz.underlying5 g off n cap (bs.map fun x : Nat => (x : Int)) (by rw [List.length_map, hl]) (fun i hi => ?_) 9 Tryz.underlying9
    rw [h.at (nget_of_lt (j := i) (by omega))]
    have e : (bs.map fun x : Nat => (x : Int)).getD i 0 = ((bs.getD i 0 : Nat) : Int) := by
      rw [List.getD, List.getElem?_map, nget_of_lt (j := i) (by omega)]
      rfl
    rw [e]
theorem strOf_data (bs : List Nat) : (strOf bs).data.toList = bs.map fun x => UInt8.ofNat x := by
  unfold strOf strOfNums
  simp [List.map_map]
theorem strOf_inj {xs ys : List Nat} (hx : ∀ x ∈ xs, x < 256) (hy : ∀ x ∈ ys, x < 256) (h : strOf xs = strOf ys) : xs = ys := by
  have h2 : xs.map (fun x => UInt8.ofNat x) = ys.map fun x => UInt8.ofNat x := by rw [← strOf_data, ← strOf_data, h]
  have h3 := congrArg (List.map UInt8.toNat) h2
  rw [List.map_map, List.map_map] at h3
  have id1 : ∀ zs : List Nat, (∀ x ∈ zs, x < 256) → zs.map (UInt8.toNat ∘ fun x => UInt8.ofNat x) = zs := fun zs hz => by
    conv => rhs; rw [← List.map_id zs]
    apply List.map_congr_left
    intro x hx
    have := hz x hx
    simp [Nat.mod_eq_of_lt this]
  rwa [id1 xs hx, id1 ys hy] at h3
set_option maxRecDepth 20000 in
theorem bytes_same (bs : List Nat) (u v : Value) (w : World) (h : Bys w u bs) (k : Bys w v bs) : Calls Tryz.prog 18 #[u, v] w fun e w' => e = .returned (.bool true) ∧ w = w' := by
  obtain ⟨a, ca, rfl⟩ := h.form
  obtain ⟨b, cb, rfl⟩ := k.form
  have c1 := conv_bys h
  have c2 := conv_bys k
  generalize strOf bs = s at *
  generalize bs.length = n at *
  clear h k
  go_enter Tryz.func18, Tryz.ntmps18
  go_wp2
  go_ret
  exact ⟨rfl, rfl⟩
end Go.Proofs.YtlaedbglclmheaaGreatDoor

/- Ints that the call itself made: reading, writing. -/
namespace Go.Proofs.YtlaedbglclmheaaGreatDoor
set_option linter.unusedVariables false
set_option linter.unusedSimpArgs false
open Go.RowKit Go.Sort

def rowA (N : Nat) (f : Nat → Int) : Array Int := Array.ofFn (fun i : Fin N => f i)
theorem rowA_size (N : Nat) (f : Nat → Int) : (rowA N f).size = N := by simp [rowA]
theorem rowA_get {N : Nat} {f : Nat → Int} {j : Nat} (h : j < N) : (rowA N f)[j]! = f j := by
  rw [getElem!_pos _ _ (by rw [rowA_size]; exact h)]
  simp [rowA]
theorem rowA_set {N : Nat} {f : Nat → Int} {i : Nat} {x : Int} : (rowA N f).setIfInBounds i x = rowA N (fun j => if j = i then x else f j) := by
  apply Array.ext_getElem?
  intro j
  rw [Array.getElem?_setIfInBounds]
  by_cases hj : j < N
  · by_cases h : i = j
    · subst h; simp [rowA, hj]
    · have h' : ¬ j = i := fun e => h e.symm
      simp [rowA, hj, h, h']
  · by_cases h : i = j
    · subst h; simp [rowA, hj]
    · simp [rowA, hj, h]
theorem rowA_congr {N : Nat} {f g : Nat → Int} (h : ∀ j, j < N → f j = g j) : rowA N f = rowA N g := by
  apply Array.ext
  · simp [rowA]
  · intro j h1 h2
    simp only [rowA, Array.getElem_ofFn]
    exact h j (by simpa [rowA] using h1)

def rowL (N : Nat) (f : Nat → Int) : List Int := (List.range N).map f
theorem rowL_length (N : Nat) (f : Nat → Int) : (rowL N f).length = N := by simp [rowL]
theorem rowL_get {N : Nat} {f : Nat → Int} {j : Nat} (h : j < N) : (rowL N f)[j]? = some (f j) := by simp [rowL, h]
theorem rowL_arr (N : Nat) (f : Nat → Int) : (rowL N f).toArray = rowA N f := by
  apply Array.ext_getElem?
  intro j
  by_cases h : j < N <;> simp [rowL, rowA, h]
theorem rowL_getD (zs : List Int) : rowL zs.length (fun i => zs.getD i 0) = zs := by
  apply List.ext_getElem?
  intro j
  by_cases h : j < zs.length <;> simp [rowL, h]
/-- ints that the call itself made -/
theorem Ints.of_row {w : World} {base N : Nat} {v : Value} {f : Nat → Int} (h : w.ownsRow base 3 1 v N ((rowL N f).map (Value.int .i64))) (hN : N ≤ 1000000) : Ints w v (rowL N f) := Ints.of_owns h (by rw [rowL_length]; omega)
theorem one_set {w : World} {blk N q k : Nat} {f : Nat → Int} {x : Int} (hk : k < N) :
    ((putRow (Value.int .i64) w blk 0 (rowA N f)).drewN q).setCell ⟨blk, k, none⟩ (.int .i64 x) = (putRow (Value.int .i64) w blk 0 (rowA N (fun i => if i = k then x else f i))).drewN q := by
  have e1 := putRow_set (Value.int .i64) w blk 0 (rowA N f) k x (by rw [rowA_size]; exact hk)
  rw [← rowA_set, ← e1]
  simp only [Nat.zero_add]
  rfl
theorem own_form {w : World} {base N : Nat} {v : Value} {f : Nat → Int} (h : w.ownsRow base 3 1 v N ((rowL N f).map (Value.int .i64))) (hN : 1 ≤ N) : ∃ g cap, v = .slice (some ⟨g, 0, none⟩) N cap ∧ base ≤ g ∧ g < w.heap.size ∧ N ≤ cap ∧ cap ≤ maxLen := by
  obtain ⟨g, cap', e, hg, hgl, hc1, hc2, -, -⟩ := Lib.holds_of_ownsRow (enc := Value.int .i64) h (by
    rintro rfl
    rcases h.2 with ⟨_, h0⟩ | ⟨_, _, _, h0, _⟩
    · omega
    · cases h0)
  exact ⟨g, cap', e, hg, hgl, hc1, hc2⟩
theorem own_holds {w : World} {base g cap N : Nat} {f : Nat → Int} (h : w.ownsRow base 3 1 (.slice (some ⟨g, 0, none⟩) N cap) N ((rowL N f).map (Value.int .i64))) : Holds (Value.int .i64) w g 0 (rowA N f) := by
  obtain ⟨g', cap', e, -, -, -, -, -, hH⟩ := Lib.holds_of_ownsRow (enc := Value.int .i64) h (by intro e; cases e)
  simp only [Value.slice.injEq, Option.some.injEq, Addr.mk.injEq, and_true, true_and] at e
  obtain ⟨rfl, rfl⟩ := e
  rwa [rowL_arr] at hH
theorem own_cell {w : World} {base g cap N k : Nat} {f : Nat → Int} (h : w.ownsRow base 3 1 (.slice (some ⟨g, 0, none⟩) N cap) N ((rowL N f).map (Value.int .i64))) (hk : k < N) : w.cell? ⟨g, k, none⟩ = some (.int .i64 (f k)) ∧ w.frozen? ⟨g, k, none⟩ = false := by
  obtain ⟨ck, fk⟩ := own_holds h k (by rw [rowA_size]; exact hk)
  rw [rowA_get hk] at ck
  exact ⟨by simpa using ck, by simpa using fk⟩
theorem own_set {w : World} {base g cap N k : Nat} {f : Nat → Int} {x : Int} (h : w.ownsRow base 3 1 (.slice (some ⟨g, 0, none⟩) N cap) N ((rowL N f).map (Value.int .i64))) (hk : k < N) :
    (w.setCell ⟨g, k, none⟩ (.int .i64 x)).ownsRow base 3 1 (.slice (some ⟨g, 0, none⟩) N cap) N ((rowL N (fun i => if i = k then x else f i)).map (Value.int .i64)) := by
  have e := one_set (w := w) (blk := g) (q := 0) (f := f) (x := x) hk
  rw [putRow_self _ _ _ _ _ (own_holds h)] at e
  have ho := Lib.ownsRow_putRow (q := 0) (k := N) h (rowL_length N (fun i => if i = k then x else f i)) (Nat.le_refl _)
  rw [List.take_of_length_le (by rw [rowL_length]; exact Nat.le_refl _), rowL_arr] at ho
  rw [show w.setCell ⟨g, k, none⟩ (.int .i64 x) = putRow (Value.int .i64) (Sort.ahead w 0) g 0 (rowA N (fun i => if i = k then x else f i)) from e]
  exact ho
theorem own_ext {w w' : World} {base : Nat} {e : TypeId} {size n : Nat} {v : Value} {xs : List Value} (h : w.ownsRow base e size v n xs) (k : Ext w w') : w'.ownsRow base e size v n xs := by
  obtain ⟨hl, h⟩ := h
  refine ⟨hl, ?_⟩
  rcases h with h | ⟨g, cap, cur, rfl, hb, hg, h⟩
  · exact Or.inl h
  · have hlt : g < w.heap.size := by
      rcases Nat.lt_or_ge g w.heap.size with h' | h'
      · exact h'
      · rw [Array.getElem?_eq_none h'] at hg; cases hg
    exact Or.inr ⟨g, cap, cur, rfl, hb, (k.block hlt).trans hg, h⟩
end Go.Proofs.YtlaedbglclmheaaGreatDoor

/- An append of one int, and what it leaves of blocks of other types. -/
namespace Go.Proofs.YtlaedbglclmheaaGreatDoor
set_option linter.unusedVariables false
set_option linter.unusedSimpArgs false
open Go.RowKit Go.Extern.Stop Go.Stop Go.Extern

theorem push_grow {ops : Array Oper} {rest : List Oper} {o : Oper} {a : Act} {Q : Exit → Act → World → Prop} {W : World} {base : Nat} (hgd : o.guard = none) (s y : Operand) (t : TypeId)
    (ho : o.op = .call { callee := .builtin .append, args := #[s, y], argTypes := #[t, t] }) (ht : Tryz.prog.underlying t = some (.slice 3))
    (v : Value) (n : Nat) (xs : List Value) (x : Int) (hs : a.eval s = v) (hown : W.ownsRow base 3 1 v n xs) (hx : a.eval y = .slice (some ⟨W.heap.size, 0, none⟩) 1 1) (hb : base ≤ W.heap.size) (hn : n ≤ 1000000000000)
    (h : ∀ v' w', w'.ownsRow base 3 1 v' (n + 1) (xs ++ [.int .i64 x]) → Below base W w' → W.grownBy w' v.ownBlock → wpList Tryz.prog ops Q rest (a.put o.dst v') w') :
    wpList Tryz.prog ops Q (o :: rest) a (W.alloc (.cells #[.int .i64 x] 3)) := by
  obtain ⟨i0, hi, hz0, hz1, hz2⟩ := info_parts infoInt
  refine wpList_append_own _ hgd s y t ho base 3 i0 (.int .i64 0) 1 8 ht hi hz0 hz1 hz2 rfl (by decide) v n xs hs (hown.alloc _) ⟨W.heap.size, 0, none⟩ 1 1 [.int .i64 x] hx rfl (cell_one_new _ _ _) (one_int _) (by unfold maxLen; omega) (by omega) (by simp; omega) ?_
  intro v' w' h1 h2 _
  refine h v' w' h1 (Below.grown ((Below.refl base W).alloc hb _) h2 (by simp; omega) (fun k hk => (hown.lt k hk).1)) ?_
  have g := World.grownBy_alloc W (.cells #[.int .i64 x] 3) v.ownBlock
  exact ⟨h2.os.trans g.os, h2.tape.trans g.tape, h2.output.trans g.output, Nat.le_trans g.size h2.size, fun k hk hne => (h2.block k (Nat.lt_of_lt_of_le hk g.size) hne).trans (g.block k hk hne)⟩
/-- a block known whole -/
def BoxIs (w : World) (b : Nat) (cs : Array Value) (T : TypeId) : Prop := w.heap[b]? = some (.cells cs T (0, 0))
theorem BoxIs.new (w : World) (cs : Array Value) (T : TypeId) : BoxIs (w.alloc (.cells cs T)) w.heap.size cs T := heap_alloc_new w _
theorem BoxIs.lt {w : World} {b : Nat} {cs : Array Value} {T : TypeId} (h : BoxIs w b cs T) : b < w.heap.size := (Array.getElem?_eq_some_iff.1 h).1
theorem BoxIs.ext {w w' : World} {b : Nat} {cs : Array Value} {T : TypeId} (h : BoxIs w b cs T) (k : Ext w w') : BoxIs w' b cs T := (k.block h.lt).trans h
theorem BoxIs.cell {w : World} {b i : Nat} {cs : Array Value} {T : TypeId} {v : Value} (h : BoxIs w b cs T) (hi : cs[i]? = some v) : w.cell? ⟨b, i, none⟩ = some v := by
  unfold BoxIs at h
  simp [World.cell?, h, hi]
theorem BoxIs.free {w : World} {b i : Nat} {cs : Array Value} {T : TypeId} (h : BoxIs w b cs T) : w.frozen? ⟨b, i, none⟩ = false := by
  unfold BoxIs at h
  simp [World.frozen?, h]
theorem BoxIs.apart {w : World} {b : Nat} {cs : Array Value} {T : TypeId} (h : BoxIs w b cs T) {base : Nat} {e : TypeId} {size : Nat} {v : Value} {n : Nat} {xs : List Value} (k : w.ownsRow base e size v n xs) (hT : T ≠ e) : some b ≠ v.ownBlock := by
  intro hb
  rcases k.2 with ⟨rfl, -⟩ | ⟨g, cap, cur, rfl, -, hg, -⟩
  · simp [Value.ownBlock] at hb
  · simp only [Value.ownBlock, Option.some.injEq] at hb
    subst hb
    unfold BoxIs at h
    rw [h] at hg
    simp only [Option.some.injEq, Obj.cells.injEq] at hg
    exact hT hg.2.1
theorem BoxIs.grown {w w' : World} {b : Nat} {cs : Array Value} {T : TypeId} (h : BoxIs w b cs T) {base : Nat} {e : TypeId} {size : Nat} {v : Value} {n : Nat} {xs : List Value} (k : w.ownsRow base e size v n xs) (hT : T ≠ e) (hg : w.grownBy w' v.ownBlock) : BoxIs w' b cs T :=
  (hg.block b h.lt (h.apart k hT)).trans h
end Go.Proofs.YtlaedbglclmheaaGreatDoor

/- An append of a row of bytes in a drawn region. -/
namespace Go.Proofs.YtlaedbglclmheaaGreatDoor
set_option linter.unusedVariables false
set_option linter.unusedSimpArgs false
open Go.RowKit Go.Extern.Stop Go.Stop Go.Extern

theorem run_append_zero {P : Program} {w : World} (base : Nat) (t ty e : TypeId) (i : TypeInfo) (size : Nat) (ht : P.underlying t = some (.slice e)) (hi : P.info? e = some i)
    (v : Value) (n c : Nat) (ad : Addr) (xs : List Value) (hown : w.ownsRow base e size v n xs) :
    (Builtin.append_ #[t, t] ty #[v, .slice (some ad) 0 c]).run P w = .ok v w := by
  rcases hown.2 with ⟨rfl, rfl⟩ | ⟨g, cap, cur, rfl, _, _, hnc, _⟩
  · simp [Builtin.append_, run_underlying ht, sizeOf, typeInfo, hi, Builtin.lenOf, Builtin.firstCells, loadCells, loadCellsFrom, Result.andThen]
  · simp [Builtin.append_, run_underlying ht, sizeOf, typeInfo, hi, Builtin.lenOf, Builtin.firstCells, hnc, storeCells, loadCells, loadCellsFrom, Result.andThen]
theorem step_app_row {ops : Array Oper} {o : Oper} {a : Act} {K : Act → World → Prop} {Q : Exit → Act → World → Prop} {E : Prop} {W : World} {base : Nat} (hgd : o.guard = none) (s y : Operand) (t : TypeId)
    (ho : o.op = .call { callee := .builtin .append, args := #[s, y], argTypes := #[t, t] }) (ht : Tryz.prog.underlying t = some (.slice 5))
    (v : Value) (n : Nat) (xs : List Value) (hs : a.eval s = v) (hown : W.ownsRow base 5 1 v n xs) (u : Value) (m : Nat) (news : List Value) (hx : a.eval y = u) (hr : Row W u m news) (hl : news.length = m) (h1 : ∀ x ∈ news, x.oneCell' = true)
    (hb : base ≤ W.heap.size) (hn : n + m ≤ 2000000)
    (h : ∀ v' w', w'.ownsRow base 5 1 v' (n + m) (xs ++ news) → W.grownBy w' v.ownBlock → K (a.put o.dst v') w') :
    if Region.wanted o (yielded ops a.tmps) = true then Oper.wp Tryz.prog o a W K Q else E := by
  obtain ⟨i0, hi, hz0, hz1, hz2⟩ := info_parts infoU8
  obtain ⟨a0, cap, rfl, hmc, hcm, hsome, hcells⟩ := hr
  rcases Nat.eq_zero_or_pos m with h0 | h0
  · subst h0
    obtain rfl : news = [] := List.eq_nil_of_length_eq_zero hl
    have hw : Region.wanted o (yielded ops a.tmps) = true := by simp [Region.wanted, hgd]
    rw [if_pos hw]
    cases a0 with
    | none =>
      have hrun := run_append_none (P := Tryz.prog) (w := W) base t o.type 5 i0 1 ht hi v n cap xs hown
      unfold Oper.wp
      simp [execOp, ho, resolve, invoke, builtin, hs, hx, hrun, Result.andThen]
      exact h v W (by simpa using hown) ⟨rfl, rfl, rfl, Nat.le_refl _, fun _ _ _ => rfl⟩
    | some ad =>
      have hrun := run_append_zero (P := Tryz.prog) (w := W) base t o.type 5 i0 1 ht hi v n cap ad xs hown
      unfold Oper.wp
      simp [execOp, ho, resolve, invoke, builtin, hs, hx, hrun, Result.andThen]
      exact h v W (by simpa using hown) ⟨rfl, rfl, rfl, Nat.le_refl _, fun _ _ _ => rfl⟩
  · obtain ⟨g, off, rfl⟩ := hsome h0
    have hnews : ∀ j x, news[j]? = some x → W.cell? ((⟨g, off, none⟩ : Addr).add j) = some x := fun j x hj => by
      have hadd : (⟨g, off, none⟩ : Addr).add j = ⟨g, off + j, none⟩ := by unfold Addr.add; split <;> simp_all
      rw [hadd]
      exact hcells g off rfl j x hj
    refine step_append_lies W hgd s y t ho base 5 i0 (.int .u8 0) 1 1 ht hi hz0 hz1 hz2 rfl (by decide) v n xs hs hown ⟨g, off, none⟩ m cap news hx (by omega) hnews h1 h0 (by unfold maxLen; omega) (by omega) hb W.heap.size rfl ?_
    intro g' cap' w' k1 k2 _ _
    exact h _ w' k1 k2
end Go.Proofs.YtlaedbglclmheaaGreatDoor

/- Objects and the blocks that they lie in, beside each other. -/
namespace Go.Proofs.YtlaedbglclmheaaGreatDoor
set_option linter.unusedVariables false
set_option linter.unusedSimpArgs false
open Go.RowKit Go.Extern.Stop Go.Stop Go.Extern

/-- what an object's call leaves: all that is not of its blocks; its blocks are the old ones, or new -/
def Step (F : Nat → Prop) (w : World) (F' : Nat → Prop) (w' : World) : Prop := ((w'.os = w.os ∧ w'.tape = w.tape ∧ w'.output = w.output) ∧ w.heap.size ≤ w'.heap.size ∧ ∀ k, k < w.heap.size → ¬ F k → w'.heap[k]? = w.heap[k]?) ∧ ∀ k, F' k → F k ∨ w.heap.size ≤ k
theorem Step.refl (F : Nat → Prop) (w : World) : Step F w F w := ⟨⟨⟨rfl, rfl, rfl⟩, Nat.le_refl _, fun _ _ _ => rfl⟩, fun _ h => .inl h⟩
theorem Step.trans {F G H : Nat → Prop} {u v w : World} (h : Step F u G v) (k : Step G v H w) : Step F u H w := by
  obtain ⟨⟨⟨h1, h2, h3⟩, h4, h5⟩, h6⟩ := h
  obtain ⟨⟨⟨k1, k2, k3⟩, k4, k5⟩, k6⟩ := k
  refine ⟨⟨⟨k1.trans h1, k2.trans h2, k3.trans h3⟩, Nat.le_trans h4 k4, fun i hi hn => ?_⟩, fun i hi => ?_⟩
  · exact (k5 i (Nat.lt_of_lt_of_le hi h4) (fun hg => (h6 i hg).elim hn (by omega))).trans (h5 i hi hn)
  · rcases k6 i hi with hg | hg
    · exact h6 i hg
    · exact .inr (by omega)
theorem Step.of_ext {F : Nat → Prop} {w w' : World} (h : Ext w w') : Step F w F w' := ⟨⟨⟨Below.os h, Below.tape h, Below.output h⟩, h.size, fun _ hi _ => h.block hi⟩, fun _ h => .inl h⟩
theorem Step.ext {F G : Nat → Prop} {u v w : World} (h : Step F u G v) (k : Ext v w) : Step F u G w := h.trans (Step.of_ext k)
theorem Step.size {F G : Nat → Prop} {u v : World} (h : Step F u G v) : u.heap.size ≤ v.heap.size := h.1.2.1
theorem Step.out {F G : Nat → Prop} {u v w : World} (h : Ext u v) (k : Step F v G w) (hF : ∀ i, F i → u.heap.size ≤ i) : Ext u w ∧ ∀ i, G i → u.heap.size ≤ i := by
  refine ⟨Below.trans (c := w) h ⟨k.1.1.1, k.1.1.2.1, k.1.1.2.2, k.1.2.1, fun i hi => k.1.2.2 i (Nat.lt_of_lt_of_le hi h.size) (fun hi' => by have := hF i hi'; omega)⟩, fun i hi => ?_⟩
  rcases k.2 i hi with hf | hf
  · exact hF i hf
  · exact Nat.le_trans h.size hf
theorem Step.of_kp {F : Nat → Prop} {a : Nat} {w w' : World} (h : Kp a w w') (ha : F a) : Step F w F w' := ⟨⟨⟨World.grownBy.os h, World.grownBy.tape h, World.grownBy.output h⟩, h.size, fun i hi hn => h.block hi (fun e => hn (e ▸ ha))⟩, fun _ h => .inl h⟩
/-- an object of other blocks, beside the step -/
theorem Step.apart {F G X : Nat → Prop} {u v : World} (h : Step F u G v) (hX : ∀ k, X k → k < u.heap.size) (hd : ∀ k, X k → ¬ F k) : (∀ k, X k → v.heap[k]? = u.heap[k]?) ∧ (∀ k, X k → ¬ G k) ∧ ∀ k, X k → k < v.heap.size :=
  ⟨fun k hk => h.1.2.2 k (hX k hk) (hd k hk), fun k hk hg => (h.2 k hg).elim (hd k hk) (fun h' => by have := hX k hk; omega), fun k hk => Nat.lt_of_lt_of_le (hX k hk) h.1.2.1⟩
def FPost {σ : Type} (At : World → (Nat → Prop) → σ → Prop) (F : Nat → Prop) (w : World) (v : Value) (s : σ) (e : Ending) (w' : World) : Prop := e = .returned v ∧ ∃ F', At w' F' s ∧ Step F w F' w'
structure Obj {σ : Type} (A : World → (Nat → Prop) → σ → Prop) : Prop where
  lt : ∀ {w F s}, A w F s → ∀ k, F k → k < w.heap.size
  same : ∀ {w w' F s}, A w F s → (∀ i, F i → w'.heap[i]? = w.heap[i]?) → A w' F s
def Sep {σ τ : Type} (A : World → (Nat → Prop) → σ → Prop) (B : World → (Nat → Prop) → τ → Prop) (w : World) (F : Nat → Prop) (p : σ × τ) : Prop := ∃ F1 F2, A w F1 p.1 ∧ B w F2 p.2 ∧ (∀ k, F2 k → ¬ F1 k) ∧ ∀ k, F k ↔ (F1 k ∨ F2 k)
section
variable {σ τ : Type} {A : World → (Nat → Prop) → σ → Prop} {B : World → (Nat → Prop) → τ → Prop} {w0 w w' : World}
theorem Obj.sep (a : Obj A) (b : Obj B) : Obj (Sep A B) := ⟨fun ⟨F1, F2, h1, h2, _, h4⟩ k hk => ((h4 k).1 hk).elim (a.lt h1 k) (b.lt h2 k),
  fun ⟨F1, F2, h1, h2, h3, h4⟩ k => ⟨F1, F2, a.same h1 (fun i hi => k i ((h4 i).2 (.inl hi))), b.same h2 (fun i hi => k i ((h4 i).2 (.inr hi))), h3, h4⟩⟩
theorem sep_l (b : Obj B) {f : FuncId} {args : Array Value} {v : Value} {s' : σ} {p : σ × τ} {F : Nat → Prop} (h : Sep A B w F p) (c : ∀ G, A w G p.1 → Calls Tryz.prog f args w (FPost A G w v s')) : Calls Tryz.prog f args w (FPost (Sep A B) F w v (s', p.2)) := by
  obtain ⟨F1, F2, h1, h2, h3, h4⟩ := h
  refine (c F1 h1).mono ?_
  rintro e w' ⟨rfl, F', h', st⟩
  obtain ⟨k1, k2, k3⟩ := st.apart (b.lt h2) h3
  refine ⟨rfl, fun k => F' k ∨ F2 k, ⟨F', F2, h', b.same h2 k1, k2, fun _ => Iff.rfl⟩, ⟨st.1.1, st.1.2.1, fun k hk hn => st.1.2.2 k hk (fun hf => hn ((h4 k).2 (.inl hf)))⟩, ?_⟩
  rintro k (hk | hk)
  · exact (st.2 k hk).imp (fun h => (h4 k).2 (.inl h)) id
  · exact .inl ((h4 k).2 (.inr hk))
theorem sep_r (a : Obj A) {f : FuncId} {args : Array Value} {v : Value} {t' : τ} {p : σ × τ} {F : Nat → Prop} (h : Sep A B w F p) (c : ∀ G, B w G p.2 → Calls Tryz.prog f args w (FPost B G w v t')) : Calls Tryz.prog f args w (FPost (Sep A B) F w v (p.1, t')) := by
  obtain ⟨F1, F2, h1, h2, h3, h4⟩ := h
  refine (c F2 h2).mono ?_
  rintro e w' ⟨rfl, F', h', st⟩
  obtain ⟨k1, k2, k3⟩ := st.apart (a.lt h1) (fun k hk hf => h3 k hf hk)
  refine ⟨rfl, fun k => F1 k ∨ F' k, ⟨F1, F', a.same h1 k1, h', fun k hk hf => k2 k hf hk, fun _ => Iff.rfl⟩, ⟨st.1.1, st.1.2.1, fun k hk hn => st.1.2.2 k hk (fun hf => hn ((h4 k).2 (.inr hf)))⟩, ?_⟩
  rintro k (hk | hk)
  · exact .inl ((h4 k).2 (.inl hk))
  · exact (st.2 k hk).imp (fun h => (h4 k).2 (.inr h)) id
/-- an object that the call made -/
def Uno (A : World → (Nat → Prop) → σ → Prop) (w0 w : World) (s : σ) : Prop := ∃ F, A w F s ∧ Ext w0 w ∧ ∀ k, F k → w0.heap.size ≤ k
theorem Uno.call {f : FuncId} {args : Array Value} {v : Value} {s s' : σ} (h : Uno A w0 w s) (c : ∀ F, A w F s → Calls Tryz.prog f args w (FPost A F w v s')) : Calls Tryz.prog f args w fun e w' => e = .returned v ∧ Uno A w0 w' s' := by
  obtain ⟨F, h1, h2, h3⟩ := h
  refine (c F h1).mono ?_
  rintro e w' ⟨rfl, F', h', st⟩
  obtain ⟨k1, k2⟩ := st.out h2 h3
  exact ⟨rfl, F', h', k1, k2⟩
theorem Uno.ext (a : Obj A) {s : σ} (h : Uno A w0 w s) (k : Ext w w') : Uno A w0 w' s := by
  obtain ⟨F, h1, h2, h3⟩ := h
  exact ⟨F, a.same h1 (fun i hi => k.block (a.lt h1 i hi)), h2.trans k, h3⟩
theorem Uno.out {s : σ} (h : Uno A w0 w s) : Ext w0 w := by obtain ⟨F, h1, h2, h3⟩ := h; exact h2
theorem Uno.add (a : Obj A) {s : σ} {t : τ} {G : Nat → Prop} (h : Uno A w0 w s) (k : Ext w w') (hb : B w' G t) (hG : ∀ k, G k → w.heap.size ≤ k) : Uno (Sep A B) w0 w' (s, t) := by
  obtain ⟨F, h1, h2, h3⟩ := h
  refine ⟨fun i => F i ∨ G i, ⟨F, G, a.same h1 (fun i hi => k.block (a.lt h1 i hi)), hb, fun i hi hf => by have := a.lt h1 i hf; have := hG i hi; omega, fun _ => Iff.rfl⟩, h2.trans k, ?_⟩
  rintro i (hi | hi)
  · exact h3 i hi
  · exact Nat.le_trans h2.size (hG i hi)
theorem Uno.first {s : σ} {F : Nat → Prop} (h : A w F s) (k : Ext w0 w) (hF : ∀ k, F k → w0.heap.size ≤ k) : Uno A w0 w s := ⟨F, h, k, hF⟩
theorem Uno.l {p : σ × τ} (h : Uno (Sep A B) w0 w p) : ∃ G, A w G p.1 := by obtain ⟨_, ⟨F1, _, h1, _⟩, _⟩ := h; exact ⟨F1, h1⟩
theorem Uno.r {p : σ × τ} (h : Uno (Sep A B) w0 w p) : ∃ G, B w G p.2 := by obtain ⟨_, ⟨_, F2, _, h1, _⟩, _⟩ := h; exact ⟨F2, h1⟩
theorem Uno.get {s : σ} (h : Uno A w0 w s) : ∃ G, A w G s := by obtain ⟨F, h1, _⟩ := h; exact ⟨F, h1⟩
theorem Uno.pl (b : Obj B) {f : FuncId} {args : Array Value} {v : Value} {s' : σ} {s : σ} {t : τ} (h : Uno (Sep A B) w0 w (s, t)) (c : ∀ G, A w G s → Calls Tryz.prog f args w (FPost A G w v s')) : Calls Tryz.prog f args w fun e w' => e = .returned v ∧ Uno (Sep A B) w0 w' (s', t) := h.call (fun _ hF => sep_l b hF c)
theorem Uno.pr (a : Obj A) {f : FuncId} {args : Array Value} {v : Value} {t' : τ} {s : σ} {t : τ} (h : Uno (Sep A B) w0 w (s, t)) (c : ∀ G, B w G t → Calls Tryz.prog f args w (FPost B G w v t')) : Calls Tryz.prog f args w fun e w' => e = .returned v ∧ Uno (Sep A B) w0 w' (s, t') := h.call (fun _ hF => sep_r a hF c)
end
end Go.Proofs.YtlaedbglclmheaaGreatDoor

/- Objects, what was told with them, and a bag of what holds beside them (generic). -/
namespace Go.Proofs.YtlaedbglclmheaaGreatDoor
set_option linter.unusedVariables false
set_option linter.unusedSimpArgs false
open Go.RowKit Go.Extern.Stop Go.Stop Go.Extern
theorem own_block {w w' : World} {base : Nat} {e : TypeId} {size n : Nat} {v : Value} {xs : List Value} (h : w.ownsRow base e size v n xs) (k : ∀ g, v.ownBlock = some g → w'.heap[g]? = w.heap[g]?) : w'.ownsRow base e size v n xs := by
  obtain ⟨h1, h2⟩ := h
  refine ⟨h1, ?_⟩
  rcases h2 with h2 | ⟨g, cap, cur, rfl, hg, hh, r⟩
  · exact .inl h2
  · exact .inr ⟨g, cap, cur, rfl, hg, (k g rfl).trans hh, r⟩

/-- the object behind the call, of whatever kind, and what was told with it -/
def QPost {σ : Type} (A : World → (Nat → Prop) → σ → Prop) (R : Ending → σ → Prop) (F : Nat → Prop) (w : World) (e : Ending) (w' : World) : Prop := ∃ s G, R e s ∧ A w' G s ∧ Step F w G w'
section
variable {σ σ' τ τ' : Type} {A : World → (Nat → Prop) → σ → Prop} {A' : World → (Nat → Prop) → σ' → Prop} {B : World → (Nat → Prop) → τ → Prop} {B' : World → (Nat → Prop) → τ' → Prop} {w0 w w' : World}
theorem FPost.q {F : Nat → Prop} {v : Value} {s : σ} {e : Ending} (h : FPost A F w v s e w') : QPost A (fun e t => e = .returned v ∧ t = s) F w e w' := by
  obtain ⟨rfl, G, h1, h2⟩ := h
  exact ⟨s, G, ⟨rfl, rfl⟩, h1, h2⟩
theorem Sep.l (b : Obj B) {s : σ} {s' : σ'} {t : τ} {F F1 F1' F2 : Nat → Prop} (h2 : B w F2 t) (h3 : ∀ k, F2 k → ¬ F1 k) (h4 : ∀ k, F k ↔ (F1 k ∨ F2 k)) (k : A' w' F1' s') (st : Step F1 w F1' w') : Sep A' B w' (fun k => F1' k ∨ F2 k) (s', t) ∧ Step F w (fun k => F1' k ∨ F2 k) w' := by
  obtain ⟨k1, k2, k3⟩ := st.apart (b.lt h2) h3
  refine ⟨⟨F1', F2, k, b.same h2 k1, k2, fun _ => Iff.rfl⟩, ⟨st.1.1, st.1.2.1, fun k hk hn => st.1.2.2 k hk (fun hf => hn ((h4 k).2 (.inl hf)))⟩, ?_⟩
  rintro k (hk | hk)
  · exact (st.2 k hk).imp (fun h => (h4 k).2 (.inl h)) id
  · exact .inl ((h4 k).2 (.inr hk))
theorem Sep.r (a : Obj A) {s : σ} {t' : τ'} {F F1 F2 F2' : Nat → Prop} (h1 : A w F1 s) (h3 : ∀ k, F2 k → ¬ F1 k) (h4 : ∀ k, F k ↔ (F1 k ∨ F2 k)) (k : B' w' F2' t') (st : Step F2 w F2' w') : Sep A B' w' (fun k => F1 k ∨ F2' k) (s, t') ∧ Step F w (fun k => F1 k ∨ F2' k) w' := by
  obtain ⟨k1, k2, k3⟩ := st.apart (a.lt h1) (fun k hk hf => h3 k hf hk)
  refine ⟨⟨F1, F2', a.same h1 k1, k, fun k hk hf => k2 k hf hk, fun _ => Iff.rfl⟩, ⟨st.1.1, st.1.2.1, fun k hk hn => st.1.2.2 k hk (fun hf => hn ((h4 k).2 (.inr hf)))⟩, ?_⟩
  rintro k (hk | hk)
  · exact .inl ((h4 k).2 (.inl hk))
  · exact (st.2 k hk).imp (fun h => (h4 k).2 (.inr h)) id
theorem Sep.new (a : Obj A) {s : σ} {t : τ} {F G : Nat → Prop} (h : A w F s) (k : Ext w w') (hb : B w' G t) (hG : ∀ k, G k → w.heap.size ≤ k) : Sep A B w' (fun i => F i ∨ G i) (s, t) ∧ Step F w (fun i => F i ∨ G i) w' := by
  refine ⟨⟨F, G, a.same h (fun i hi => k.block (a.lt h i hi)), hb, fun i hi hf => by have := a.lt h i hf; have := hG i hi; omega, fun _ => Iff.rfl⟩, (Step.of_ext (F := F) k).1, ?_⟩
  rintro i (hi | hi)
  · exact .inl hi
  · exact .inr (hG i hi)
theorem Obj.ext (a : Obj A) {s : σ} {F : Nat → Prop} (h : A w F s) (k : Ext w w') : A w' F s := a.same h (fun i hi => k.block (a.lt h i hi))
/-- what stands beside the object is let go, another thing is new -/
theorem Sep.other {υ : Type} {C : World → (Nat → Prop) → υ → Prop} (a : Obj A) {s : σ} {t : τ} {u : υ} {F F0 H : Nat → Prop} {v0 : World} (h : Sep A B w F (s, t)) (k : Ext w w') (hc : C w' H u) (hH : ∀ k, H k → w.heap.size ≤ k) (st : Step F0 v0 F w) : ∃ G, Sep A C w' G (s, u) ∧ Step F0 v0 G w' := by
  obtain ⟨F1, F2, h1, h2, h3, h4⟩ := h
  obtain ⟨k1, k2⟩ := Sep.new a h1 k hc hH
  have st2 := st.ext k
  refine ⟨_, k1, st2.1, ?_⟩
  rintro i (hi | hi)
  · exact st2.2 i ((h4 i).2 (.inl hi))
  · exact .inr (Nat.le_trans st.1.2.1 (hH i hi))
theorem sep_lq (b : Obj B) {f : FuncId} {args : Array Value} {R : Ending → σ' → Prop} {s : σ} {t : τ} {F : Nat → Prop} (h : Sep A B w F (s, t)) (c : ∀ G, A w G s → Calls Tryz.prog f args w (QPost A' R G w)) : Calls Tryz.prog f args w (QPost (Sep A' B) (fun e p => R e p.1 ∧ p.2 = t) F w) := by
  obtain ⟨F1, F2, h1, h2, h3, h4⟩ := h
  refine (c F1 h1).mono ?_
  rintro e w' ⟨s', F', hr, h', st⟩
  obtain ⟨k1, k2⟩ := Sep.l b (s := s) h2 h3 h4 h' st
  exact ⟨(s', t), _, ⟨hr, rfl⟩, k1, k2⟩
theorem sep_rq (a : Obj A) {f : FuncId} {args : Array Value} {R : Ending → τ' → Prop} {s : σ} {t : τ} {F : Nat → Prop} (h : Sep A B w F (s, t)) (c : ∀ G, B w G t → Calls Tryz.prog f args w (QPost B' R G w)) : Calls Tryz.prog f args w (QPost (Sep A B') (fun e p => R e p.2 ∧ p.1 = s) F w) := by
  obtain ⟨F1, F2, h1, h2, h3, h4⟩ := h
  refine (c F2 h2).mono ?_
  rintro e w' ⟨t', F', hr, h', st⟩
  obtain ⟨k1, k2⟩ := Sep.r a h1 h3 h4 h' st
  exact ⟨(s, t'), _, ⟨hr, rfl⟩, k1, k2⟩
theorem Uno.q {f : FuncId} {args : Array Value} {R : Ending → σ' → Prop} {s : σ} (h : Uno A w0 w s) (c : ∀ F, A w F s → Calls Tryz.prog f args w (QPost A' R F w)) : Calls Tryz.prog f args w fun e w' => ∃ s', R e s' ∧ Uno A' w0 w' s' := by
  obtain ⟨F, h1, h2, h3⟩ := h
  refine (c F h1).mono ?_
  rintro e w' ⟨s', F', hr, h', st⟩
  obtain ⟨k1, k2⟩ := st.out h2 h3
  exact ⟨s', hr, F', h', k1, k2⟩
theorem Uno.lq (b : Obj B) {f : FuncId} {args : Array Value} {R : Ending → σ' → Prop} {s : σ} {t : τ} (h : Uno (Sep A B) w0 w (s, t)) (c : ∀ G, A w G s → Calls Tryz.prog f args w (QPost A' R G w)) : Calls Tryz.prog f args w fun e w' => ∃ s', R e s' ∧ Uno (Sep A' B) w0 w' (s', t) := by
  refine (h.q (fun _ hF => sep_lq b hF c)).mono ?_
  rintro e w' ⟨⟨s', t'⟩, ⟨hr, rfl⟩, hu⟩
  exact ⟨s', hr, hu⟩
theorem Uno.rq (a : Obj A) {f : FuncId} {args : Array Value} {R : Ending → τ' → Prop} {s : σ} {t : τ} (h : Uno (Sep A B) w0 w (s, t)) (c : ∀ G, B w G t → Calls Tryz.prog f args w (QPost B' R G w)) : Calls Tryz.prog f args w fun e w' => ∃ t', R e t' ∧ Uno (Sep A B') w0 w' (s, t') := by
  refine (h.q (fun _ hF => sep_rq a hF c)).mono ?_
  rintro e w' ⟨⟨s', t'⟩, ⟨hr, rfl⟩, hu⟩
  exact ⟨t', hr, hu⟩
/-- the parts of a pair, changed about -/
theorem Sep.swap {s : σ} {t : τ} {F : Nat → Prop} (h : Sep A B w F (s, t)) : Sep B A w F (t, s) := by
  obtain ⟨F1, F2, h1, h2, h3, h4⟩ := h
  exact ⟨F2, F1, h2, h1, fun k hk hf => h3 k hf hk, fun k => (h4 k).trans Or.comm⟩
theorem Uno.swap {s : σ} {t : τ} (h : Uno (Sep A B) w0 w (s, t)) : Uno (Sep B A) w0 w (t, s) := by
  obtain ⟨F, h1, h2, h3⟩ := h
  exact ⟨F, h1.swap, h2, h3⟩
theorem Uno.fst {s : σ} {t : τ} (h : Uno (Sep A B) w0 w (s, t)) : Uno A w0 w s := by
  obtain ⟨F, ⟨F1, F2, h1, h2, h3, h4⟩, h5, h6⟩ := h
  exact ⟨F1, h1, h5, fun k hk => h6 k ((h4 k).2 (.inl hk))⟩
theorem Uno.assoc {υ : Type} {C : World → (Nat → Prop) → υ → Prop} {s : σ} {t : τ} {u : υ} (h : Uno (Sep (Sep A B) C) w0 w ((s, t), u)) : Uno (Sep (Sep A C) B) w0 w ((s, u), t) := by
  obtain ⟨F, ⟨F1, F2, ⟨G1, G2, g1, g2, g3, g4⟩, h2, h3, h4⟩, h5, h6⟩ := h
  refine ⟨F, ⟨fun k => G1 k ∨ F2 k, G2, ⟨G1, F2, g1, h2, fun k hk hf => h3 k hk ((g4 k).2 (.inl hf)), fun _ => Iff.rfl⟩, g2, fun k hk hf => hf.elim (fun h => g3 k hk h) (fun h => h3 k h ((g4 k).2 (.inr hk))), fun k => ?_⟩, h5, h6⟩
  have e1 := h4 k
  have e2 := g4 k
  constructor
  · intro h
    rcases e1.1 h with h | h
    · rcases e2.1 h with h | h
      · exact .inl (.inl h)
      · exact .inr h
    · exact .inl (.inr h)
  · rintro ((h | h) | h)
    · exact e1.2 (.inl (e2.2 (.inl h)))
    · exact e1.2 (.inr h)
    · exact e1.2 (.inl (e2.2 (.inr h)))
end
/-- what holds as long as some blocks stay -/
def HoF (w : World) (F : Nat → Prop) (P : World → Prop) : Prop := (∀ k, F k → k < w.heap.size) ∧ ∀ w', (∀ i, F i → w'.heap[i]? = w.heap[i]?) → P w'
theorem lt_of_same {w w' : World} {F : Nat → Prop} (h : ∀ k, F k → k < w.heap.size) (k : ∀ i, F i → w'.heap[i]? = w.heap[i]?) : ∀ i, F i → i < w'.heap.size := fun i hi => by
  have e := k i hi
  rw [Array.getElem?_eq_getElem (h i hi)] at e
  exact (Array.getElem?_eq_some_iff.1 e).1
theorem HoF.obj : Obj HoF := ⟨fun h => h.1, fun h k => ⟨lt_of_same h.1 k, fun w2 k2 => h.2 w2 (fun i hi => (k2 i hi).trans (k i hi))⟩⟩
theorem HoF.get {w : World} {F : Nat → Prop} {P : World → Prop} (h : HoF w F P) : P w := h.2 w (fun _ _ => rfl)
theorem HoF.and {w : World} {F G : Nat → Prop} {P Q : World → Prop} (h : HoF w F P) (k : HoF w G Q) : HoF w (fun i => F i ∨ G i) (fun W => P W ∧ Q W) :=
  ⟨fun i hi => hi.elim (h.1 i) (k.1 i), fun w' a => ⟨h.2 w' (fun i hi => a i (.inl hi)), k.2 w' (fun i hi => a i (.inr hi))⟩⟩
theorem HoF.imp {w : World} {F : Nat → Prop} {P Q : World → Prop} (h : HoF w F P) (k : ∀ W, P W → Q W) : HoF w F Q := ⟨h.1, fun w' a => k w' (h.2 w' a)⟩
theorem HoF.all {w : World} {P : World → Prop} (h : ∀ W, P W) : HoF w (fun _ => False) P := ⟨fun _ h => h.elim, fun w' _ => h w'⟩
theorem HoF.ext {w w' : World} {F : Nat → Prop} {P : World → Prop} (h : HoF w F P) (k : Ext w w') : HoF w' F P := HoF.obj.same h (fun i hi => k.block (h.1 i hi))
theorem HoF.row {w : World} {base : Nat} {t : TypeId} {size n : Nat} {v : Value} {xs : List Value} (h : w.ownsRow base t size v n xs) : HoF w (fun k => v.ownBlock = some k) (fun W => W.ownsRow base t size v n xs) :=
  ⟨fun k hk => (h.lt k hk).2, fun _ a => own_block h (fun g hg => a g hg)⟩
theorem HoF.cell {w : World} {b o : Nat} {v : Value} (h : w.cell? ⟨b, o, none⟩ = some v) : HoF w (fun k => k = b) (fun W => W.cell? ⟨b, o, none⟩ = some v) :=
  ⟨fun k hk => by rw [hk]; exact Ext.lt h, fun _ a => (World.cell?_of_block (a := ⟨b, o, none⟩) (a b rfl)).trans h⟩
theorem HoF.and' {w : World} {F : Nat → Prop} {P Q : World → Prop} (h : HoF w F P) (k : HoF w F Q) : HoF w F (fun W => P W ∧ Q W) := ⟨h.1, fun w' a => ⟨h.2 w' a, k.2 w' a⟩⟩
theorem Uno.held {σ : Type} {A : World → (Nat → Prop) → σ → Prop} {w0 w : World} {s : σ} {P : World → Prop} (h : Uno (Sep A HoF) w0 w (s, P)) : P w := by
  obtain ⟨_, h⟩ := h.r
  exact h.get
theorem Sep.imp {σ τ τ' : Type} {A : World → (Nat → Prop) → σ → Prop} {B : World → (Nat → Prop) → τ → Prop} {B' : World → (Nat → Prop) → τ' → Prop} {w : World} {F : Nat → Prop} {s : σ} {t : τ} {t' : τ'} (h : Sep A B w F (s, t)) (k : ∀ G, B w G t → B' w G t') : Sep A B' w F (s, t') := by
  obtain ⟨F1, F2, h1, h2, h3, h4⟩ := h
  exact ⟨F1, F2, h1, k _ h2, h3, h4⟩
/-- nothing made beside the object -/
theorem Sep.pure {σ : Type} {A : World → (Nat → Prop) → σ → Prop} {w : World} {F : Nat → Prop} {s : σ} {P : World → Prop} (h : A w F s) (hp : ∀ W, P W) : Sep A HoF w F (s, P) := ⟨F, fun _ => False, h, HoF.all hp, fun _ hk => hk.elim, fun _ => ⟨.inl, fun k => k.elim id False.elim⟩⟩
/-- fault.In of a code: the Fault is new -/
theorem in_new (s : ByteArray) (n c : Int) (w : World) : Calls Tryz.prog 93 #[.string s, .int .i64 n, .iface 35 (.int .i64 c)] w fun e w' => ∃ u b, e = .returned u ∧ Ext w w' ∧ w.heap.size ≤ b ∧ HoF w' (fun k => k = b) (fun W => IsErr W [(s, n)] c u) := by
  have E1 : Ext w (w.alloc (.cells #[.string s, .int .i64 n, .iface 35 (.int .i64 c)] 176)) := (Ext.refl w).alloc _
  go_enter Tryz.func93, Tryz.ntmps93
  go_wp2
  go_ret
  refine ⟨_, w.heap.size, rfl, E1, Nat.le_refl _, ?_⟩
  exact ((HoF.cell (v := .string s) (o := 0) (by simp)).and' ((HoF.cell (v := .int .i64 n) (o := 1) (by simp)).and' (HoF.cell (v := .iface 35 (.int .i64 c)) (o := 2) (by simp)))).imp (fun W h => ⟨w.heap.size, _, rfl, h.1, h.2.1, h.2.2, rfl⟩)

section
variable {σ σ' τ τ' : Type} {A : World → (Nat → Prop) → σ → Prop} {A' : World → (Nat → Prop) → σ' → Prop} {B : World → (Nat → Prop) → τ → Prop} {B' : World → (Nat → Prop) → τ' → Prop} {w0 w w' : World} {P Q : World → Prop}
theorem Uno.bag (a : Obj A) {s : σ} (h : Uno A w0 w s) (hp : ∀ W, P W) : Uno (Sep A HoF) w0 w (s, P) := by
  obtain ⟨F, h1, h2, h3⟩ := h
  exact ⟨F, Sep.pure h1 hp, h2, h3⟩
theorem bag_imp {s : σ} (h : Uno (Sep A HoF) w0 w (s, P)) (k : ∀ W, P W → Q W) : Uno (Sep A HoF) w0 w (s, Q) := by
  obtain ⟨F, h1, h2, h3⟩ := h
  exact ⟨F, h1.imp (fun _ h => h.imp k), h2, h3⟩
theorem bag_ext (a : Obj A) {s : σ} (h : Uno (Sep A HoF) w0 w (s, P)) (k : Ext w w') : Uno (Sep A HoF) w0 w' (s, P) := h.ext (a.sep HoF.obj) k
theorem bag_add (a : Obj A) {s : σ} {X : Nat → Prop} (h : Uno (Sep A HoF) w0 w (s, P)) (k : Ext w w') (hq : HoF w' X Q) (hx : ∀ i, X i → w.heap.size ≤ i) : Uno (Sep A HoF) w0 w' (s, fun W => P W ∧ Q W) := by
  obtain ⟨F, ⟨F1, F2, h1, h2, h3, h4⟩, h5, h6⟩ := h
  refine ⟨fun i => F i ∨ X i, ⟨F1, fun i => F2 i ∨ X i, Obj.ext a h1 k, (h2.ext k).and hq, ?_, fun i => ?_⟩, h5.trans k, ?_⟩
  · rintro i (hi | hi) hf
    · exact h3 i hi hf
    · have := a.lt h1 i hf
      have := hx i hi
      omega
  · show (F i ∨ X i) ↔ (F1 i ∨ (F2 i ∨ X i))
    rw [h4 i, or_assoc]
  · rintro i (hi | hi)
    · exact h6 i hi
    · exact Nat.le_trans h5.size (hx i hi)
/-- what an argument reads as stays, whatever the call's own objects do -/
theorem Row.same {w w' : World} {v : Value} {n : Nat} {cells : List Value} (h : Row w v n cells) (k : ∀ i, i < w.heap.size → w'.heap[i]? = w.heap[i]?) : Row w' v n cells := by
  obtain ⟨a, cap, h1, h2, h3, h4, h5⟩ := h
  exact ⟨a, cap, h1, h2, h3, h4, fun g off hg j u hu => by
    have c := h5 g off hg j u hu
    exact (World.cell?_of_block (a := ⟨g, off + j, none⟩) (k g (Ext.lt c))).trans c⟩
theorem HoF.args {w0 w : World} {v : Value} {xs : List Int} (h : Ints w0 v xs) (k : Ext w0 w) : HoF w (fun i => i < w0.heap.size) (fun W => Ints W v xs) :=
  ⟨fun _ hi => Nat.lt_of_lt_of_le hi k.size, fun w' a => ⟨h.1.same (fun i hi => (a i hi).trans (k.block hi)), h.2⟩⟩
theorem bag_q {f : FuncId} {args : Array Value} {R : Ending → σ' × (World → Prop) → Prop} {s : σ} (h : Uno (Sep A HoF) w0 w (s, P)) (c : ∀ G X, A w G s → HoF w X P → (∀ i, X i → ¬ G i) → (∀ i, G i → w0.heap.size ≤ i) → Calls Tryz.prog f args w (QPost (Sep A' HoF) R G w)) :
    Calls Tryz.prog f args w fun e w' => ∃ s' P', R e (s', P') ∧ Uno (Sep A' HoF) w0 w' (s', fun W => P W ∧ P' W) := by
  obtain ⟨F, ⟨F1, F2, h1, h2, h3, h4⟩, h5, h6⟩ := h
  refine (c F1 F2 h1 h2 h3 (fun i hi => h6 i ((h4 i).2 (.inl hi)))).mono ?_
  rintro e w' ⟨⟨s', P'⟩, G, hr, ⟨G1, G2, k1, k2, k3, k4⟩, st⟩
  obtain ⟨a1, a2, a3⟩ := st.apart (HoF.obj.lt h2) h3
  obtain ⟨m1, m2⟩ := st.out h5 (fun i hi => h6 i ((h4 i).2 (.inl hi)))
  refine ⟨s', P', hr, fun i => G i ∨ F2 i, ⟨G1, fun i => F2 i ∨ G2 i, k1, (HoF.obj.same h2 a1).and k2, ?_, fun i => ?_⟩, m1, ?_⟩
  · rintro i (hi | hi) hf
    · exact a2 i hi ((k4 i).2 (.inl hf))
    · exact k3 i hi hf
  · have := k4 i
    constructor
    · rintro (hg | hf)
      · exact (this.1 hg).imp id .inr
      · exact .inr (.inl hf)
    · rintro (hg | hf | hg)
      · exact .inl (this.2 (.inl hg))
      · exact .inr hf
      · exact .inl (this.2 (.inr hg))
  · rintro i (hi | hi)
    · exact m2 i hi
    · exact h6 i ((h4 i).2 (.inr hi))
theorem bag_out {t : τ} {s : σ} (h : Uno (Sep (Sep A B) HoF) w0 w ((s, t), P)) : ∃ F F1 F2 F3 : Nat → Prop, A w F1 s ∧ B w F2 t ∧ HoF w F3 P ∧ (∀ i, F2 i → ¬ F1 i) ∧ (∀ i, F3 i → ¬ F1 i ∧ ¬ F2 i) ∧ (∀ i, F i ↔ (F1 i ∨ F2 i ∨ F3 i)) ∧ Ext w0 w ∧ ∀ i, F i → w0.heap.size ≤ i := by
  obtain ⟨F, ⟨F12, F3, ⟨F1, F2, g1, g2, g3, g4⟩, h2, h3, h4⟩, h5, h6⟩ := h
  refine ⟨F, F1, F2, F3, g1, g2, h2, g3, fun i hi => ⟨fun h => h3 i hi ((g4 i).2 (.inl h)), fun h => h3 i hi ((g4 i).2 (.inr h))⟩, fun i => ?_, h5, h6⟩
  rw [h4 i, g4 i, or_assoc]
/-- a call of the left of two, with what is held -/
theorem bag_ql (ob : Obj B) {f : FuncId} {args : Array Value} {R : Ending → σ' × (World → Prop) → Prop} {s : σ} {t : τ} (h : Uno (Sep (Sep A B) HoF) w0 w ((s, t), P)) (c : ∀ G X, A w G s → HoF w X P → (∀ i, X i → ¬ G i) → (∀ i, G i → w0.heap.size ≤ i) → Calls Tryz.prog f args w (QPost (Sep A' HoF) R G w)) :
    Calls Tryz.prog f args w fun e w' => ∃ s' P', R e (s', P') ∧ Uno (Sep (Sep A' B) HoF) w0 w' ((s', t), fun W => P W ∧ P' W) := by
  obtain ⟨F, F1, F2, F3, g1, g2, g3, d1, d2, hF, h5, h6⟩ := bag_out h
  refine (c F1 F3 g1 g3 (fun i hi => (d2 i hi).1) (fun i hi => h6 i ((hF i).2 (.inl hi)))).mono ?_
  rintro e w' ⟨⟨s', P'⟩, G, hr, ⟨G1, G2, k1, k2, k3, k4⟩, st⟩
  obtain ⟨a1, a2, a3⟩ := st.apart (HoF.obj.lt g3) (fun i hi => (d2 i hi).1)
  obtain ⟨b1, b2, b3⟩ := st.apart (ob.lt g2) d1
  obtain ⟨m1, m2⟩ := st.out h5 (fun i hi => h6 i ((hF i).2 (.inl hi)))
  refine ⟨s', P', hr, fun i => (G1 i ∨ F2 i) ∨ (F3 i ∨ G2 i), ⟨fun i => G1 i ∨ F2 i, fun i => F3 i ∨ G2 i, ⟨G1, F2, k1, ob.same g2 b1, fun i hi hg => b2 i hi ((k4 i).2 (.inl hg)), fun _ => Iff.rfl⟩, (HoF.obj.same g3 a1).and k2, ?_, fun _ => Iff.rfl⟩, m1, ?_⟩
  · rintro i (hi | hi) (hg | hg)
    · exact a2 i hi ((k4 i).2 (.inl hg))
    · exact (d2 i hi).2 hg
    · exact k3 i hi hg
    · exact b2 i hg ((k4 i).2 (.inr hi))
  · rintro i ((hi | hi) | (hi | hi))
    · exact m2 i ((k4 i).2 (.inl hi))
    · exact h6 i ((hF i).2 (.inr (.inl hi)))
    · exact h6 i ((hF i).2 (.inr (.inr hi)))
    · exact m2 i ((k4 i).2 (.inr hi))
theorem bag_swap {s : σ} {t : τ} (h : Uno (Sep (Sep A B) HoF) w0 w ((s, t), P)) : Uno (Sep (Sep B A) HoF) w0 w ((t, s), P) := by
  obtain ⟨F, F1, F2, F3, g1, g2, g3, d1, d2, hF, h5, h6⟩ := bag_out h
  refine ⟨F, ⟨fun i => F2 i ∨ F1 i, F3, ⟨F2, F1, g2, g1, fun i hi hf => d1 i hf hi, fun _ => Iff.rfl⟩, g3, fun i hi hf => hf.elim (d2 i hi).2 (d2 i hi).1, fun i => ?_⟩, h5, h6⟩
  rw [hF i]
  constructor
  · rintro (h | h | h)
    · exact .inl (.inr h)
    · exact .inl (.inl h)
    · exact .inr h
  · rintro ((h | h) | h)
    · exact .inr (.inl h)
    · exact .inl h
    · exact .inr (.inr h)
theorem bag_qr (oa : Obj A) {f : FuncId} {args : Array Value} {R : Ending → τ' × (World → Prop) → Prop} {s : σ} {t : τ} (h : Uno (Sep (Sep A B) HoF) w0 w ((s, t), P)) (c : ∀ G X, B w G t → HoF w X P → (∀ i, X i → ¬ G i) → (∀ i, G i → w0.heap.size ≤ i) → Calls Tryz.prog f args w (QPost (Sep B' HoF) R G w)) :
    Calls Tryz.prog f args w fun e w' => ∃ t' P', R e (t', P') ∧ Uno (Sep (Sep A B') HoF) w0 w' ((s, t'), fun W => P W ∧ P' W) := by
  refine (bag_ql oa (bag_swap h) c).mono ?_
  rintro e w' ⟨t', P', hr, hu⟩
  exact ⟨t', P', hr, bag_swap hu⟩
theorem Uno.fst' {s : σ} {t : τ} (h : Uno (Sep A B) w0 w (s, t)) : ∃ G, A w G s := by obtain ⟨_, ⟨F1, _, h1, _⟩, _⟩ := h; exact ⟨F1, h1⟩
end
end Go.Proofs.YtlaedbglclmheaaGreatDoor

/- Boxes and rows beside objects; lists of coded frames of the call's own. -/
namespace Go.Proofs.YtlaedbglclmheaaGreatDoor
set_option linter.unusedVariables false
set_option linter.unusedSimpArgs false
open Go.RowKit Go.Extern.Stop Go.Stop Go.Extern
theorem own_mono {w : World} {base b n : Nat} {e : TypeId} {s : Nat} {v : Value} {xs : List Value} (h : w.ownsRow base e s v n xs) (hb : b ≤ base) : w.ownsRow b e s v n xs := by
  obtain ⟨hl, h⟩ := h
  refine ⟨hl, ?_⟩
  rcases h with h | ⟨g, cap, cur, e, hg, h⟩
  · exact Or.inl h
  · exact Or.inr ⟨g, cap, cur, e, Nat.le_trans hb hg, h⟩
theorem own_extl {w w' : World} {base : Nat} {e : TypeId} {size n : Nat} {v : Value} {xs : List Value} (h : w.ownsRow base e size v n xs) (k : Ext w w') : w'.ownsRow base e size v n xs := by
  obtain ⟨hl, h⟩ := h
  refine ⟨hl, ?_⟩
  rcases h with h | ⟨g, cap, cur, rfl, hb, hg, h⟩
  · exact Or.inl h
  · have hlt : g < w.heap.size := by
      rcases Nat.lt_or_ge g w.heap.size with h' | h'
      · exact h'
      · rw [Array.getElem?_eq_none h'] at hg; cases hg
    exact Or.inr ⟨g, cap, cur, rfl, hb, (k.block hlt).trans hg, h⟩
theorem HoF.setc {w : World} {F : Nat → Prop} {P : World → Prop} {p : Addr} {v : Value} (h : HoF w F P) (hp : ¬ F p.block) : HoF (w.setCell p v) F P :=
  HoF.obj.same h (fun i hi => Below.heap_setCell w p v i (fun e => hp (e ▸ hi)))
theorem HoF.box {w : World} {b : Nat} {cs : Array Value} {T : TypeId} (h : BoxIs w b cs T) : HoF w (fun k => k = b) (fun W => BoxIs W b cs T) := ⟨fun k hk => by rw [hk]; exact h.lt, fun _ a => (a b rfl).trans h⟩
theorem in_hold (s : ByteArray) (n : Int) (xt : TypeId) (xv : Value) (w : World) : Calls Tryz.prog 93 #[.string s, .int .i64 n, .iface xt xv] w fun e w' => ∃ u b, e = .returned u ∧ Ext w w' ∧ w.heap.size ≤ b ∧ HoF w' (fun k => k = b) (fun W => ∀ p c, IsErr W p c (.iface xt xv) → IsErr W ((s, n) :: p) c u) := by
  have E1 : Ext w (w.alloc (.cells #[.string s, .int .i64 n, .iface xt xv] 176)) := (Ext.refl w).alloc _
  go_enter Tryz.func93, Tryz.ntmps93
  go_wp2
  go_ret
  refine ⟨_, w.heap.size, rfl, E1, Nat.le_refl _, ?_⟩
  exact ((HoF.cell (v := .string s) (o := 0) (by simp)).and' ((HoF.cell (v := .int .i64 n) (o := 1) (by simp)).and' (HoF.cell (v := .iface xt xv) (o := 2) (by simp)))).imp (fun W h p c hi => ⟨w.heap.size, _, rfl, h.1, h.2.1, h.2.2, hi⟩)
/-- coded frames with the values of their data, as cells -/
def cgC (Z : List (Cd × Value)) : List Value := Z.flatMap fun z => [.int .i64 z.1.1, z.2]
theorem cgC_snoc (Z : List (Cd × Value)) (z : Cd × Value) : cgC (Z ++ [z]) = cgC Z ++ [.int .i64 z.1.1, z.2] := by
  unfold cgC
  rw [List.flatMap_append]
  rfl
theorem cgC_get : ∀ (Z : List (Cd × Value)) (q : Nat) (z : Cd × Value), Z[q]? = some z → (cgC Z)[q * 2]? = some (.int .i64 z.1.1) ∧ (cgC Z)[q * 2 + 1]? = some z.2
  | [], q, z, h => by simp at h
  | y :: Z, 0, z, h => by
    simp only [List.getElem?_cons_zero, Option.some.injEq] at h
    subst h
    exact ⟨rfl, rfl⟩
  | y :: Z, q + 1, z, h => by
    obtain ⟨h1, h2⟩ := cgC_get Z q z (by simpa using h)
    have e : cgC (y :: Z) = .int .i64 y.1.1 :: y.2 :: cgC Z := rfl
    rw [e, show (q + 1) * 2 = q * 2 + 1 + 1 by omega]
    exact ⟨h1, h2⟩
theorem cgs_own {w : World} {B : Nat} {v : Value} {Z : List (Cd × Value)} (h : w.ownsRow B 61 2 v Z.length (cgC Z)) (hz : ∀ z ∈ Z, (∃ a n c, z.2 = .slice a n c) ∧ Row w z.2 z.1.2.length (byV z.1.2) ∧ ∀ x ∈ z.1.2, x < 256) : Cds w v (Z.map Prod.fst) := by
  obtain ⟨hl, h1⟩ := h
  rcases h1 with ⟨e, h0⟩ | ⟨g, cap, cur, e, hb, hg, h1, h2, hs, ht⟩
  · have hz0 : Z = [] := List.eq_nil_of_length_eq_zero h0
    subst hz0 e
    exact Cds.nil w
  · subst e
    refine ⟨some ⟨g, 0, none⟩, cap, by rw [List.length_map], ⟨by rw [List.length_map]; exact h1, h2⟩, fun _ => ⟨g, 0, rfl, fun q f hq => ?_⟩⟩
    rw [List.getElem?_map] at hq
    obtain ⟨z, hz1, rfl⟩ := Option.map_eq_some_iff.1 hq
    obtain ⟨c0, c1⟩ := cgC_get Z q z hz1
    obtain ⟨⟨ra, rn, rc, e2⟩, hr, hby⟩ := hz z (List.mem_of_getElem? hz1)
    rw [e2] at hr c1
    have cell : ∀ j u, (cgC Z)[j]? = some u → w.cell? ⟨g, 0 + j, none⟩ = some u := fun j u hj => by
      have hj2 : cur.toList[j]? = some u := by
        have h9 : (cur.toList.take (Z.length * 2))[j]? = some u := by rw [ht]; exact hj
        rw [List.getElem?_take] at h9
        split at h9
        · exact h9
        · cases h9
      have h8 : cur[j]? = some u := by simpa using hj2
      simp only [World.cell?, Nat.zero_add, hg]
      simpa using h8
    exact ⟨ra, rn, rc, cell _ _ c0, cell _ _ c1, hr, hby⟩
theorem infoCg : (Tryz.prog.info? 61).map (fun i => (i.zero, i.size, i.bytes)) = some (some (.agg #[.int .i64 0, .slice none 0 0]), 2, 32) := by kernel_rfl
theorem own_otherC {W W' : World} {b b' n n' s s' : Nat} {e e' : TypeId} {v v' : Value} {xs xs' : List Value} (h : W.ownsRow b e s v n xs) (k : W.ownsRow b' e' s' v' n' xs') (hne : e ≠ e') (g : W.grownBy W' v'.ownBlock) : W'.ownsRow b e s v n xs := by
  obtain ⟨hl, h⟩ := h
  refine ⟨hl, ?_⟩
  rcases h with h | ⟨c, cap, cur, rfl, hb, hg, h⟩
  · exact .inl h
  · have hlt : c < W.heap.size := (Array.getElem?_eq_some_iff.1 hg).1
    refine .inr ⟨c, cap, cur, rfl, hb, (g.block c hlt ?_).trans hg, h⟩
    intro e9
    rcases k.2 with ⟨rfl, -⟩ | ⟨c', cap', cur', rfl, -, hg', -⟩
    · cases e9
    · have : c = c' := Option.some.inj e9
      subst this
      rw [hg] at hg'
      simp only [Option.some.injEq, Obj.cells.injEq] at hg'
      exact hne hg'.2.1
theorem step_push_cg {ops : Array Oper} {o : Oper} {a : Act} {K : Act → World → Prop} {Q : Exit → Act → World → Prop} {X : Prop} {W : World} {base : Nat} (hgd : o.guard = none) (s y : Operand) (t : TypeId)
    (ho : o.op = .call { callee := .builtin .append, args := #[s, y], argTypes := #[t, t] }) (ht : Tryz.prog.underlying t = some (.slice 61))
    (v : Value) (n : Nat) (xs : List Value) (k : Int) (su : Value) (hsu : su.oneCell' = true) (hs : a.eval s = v) (hown : W.ownsRow base 61 2 v n xs) (hx : a.eval y = .slice (some ⟨W.heap.size, 0, none⟩) 1 1) (hb : base ≤ W.heap.size) (hn : n ≤ 1000000)
    (h : ∀ g cap w', w'.ownsRow base 61 2 (.slice (some ⟨g, 0, none⟩) (n + 1) cap) (n + 1) (xs ++ [.int .i64 k, su]) → W.grownBy w' v.ownBlock → K (a.put o.dst (.slice (some ⟨g, 0, none⟩) (n + 1) cap)) w') :
    if Region.wanted o (yielded ops a.tmps) = true then Oper.wp Tryz.prog o a (W.alloc (.cells #[.int .i64 k, su] 61)) K Q else X := by
  obtain ⟨i0, hi, hz0, hz1, hz2⟩ := info_parts infoCg
  refine step_append_lies _ hgd s y t ho base 61 i0 _ 2 32 ht hi hz0 hz1 hz2 rfl (by decide) v n xs hs (hown.alloc _) ⟨W.heap.size, 0, none⟩ 1 1 [.int .i64 k, su] hx rfl (World.news_of_block (cs := #[.int .i64 k, su]) (t := 61) (fr := (0, 0)) (heap_alloc_new W _)) ?_ (by decide) (by unfold maxLen; omega) (by omega) (by simp; omega) (W.heap.size + 1) (by simp) ?_
  · intro u hu
    simp only [List.mem_cons, List.not_mem_nil, or_false] at hu
    rcases hu with rfl | rfl
    · rfl
    · exact hsu
  intro g cap w' h1 h2 h3 _
  refine h g cap w' h1 ⟨h2.os, h2.tape, h2.output, Nat.le_trans (by simp) h2.size, fun k hk hne => ?_⟩
  exact (h2.block k (by simp; omega) hne).trans (Below.heap_alloc W _ k hk)
end Go.Proofs.YtlaedbglclmheaaGreatDoor
