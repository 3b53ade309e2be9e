/- Contracts of this seat: Br1, Br2, Bl5, CoB. -/
import Derived.Test.YtgohlhgapboijaaDoorZe
import Derived.Test.YtgohlhgapboijaaDoorZg
import Derived.Deep.RegionHeld3
import Derived.Test.YtgohlhgapboijaaDoorZf
/- kinref2.Reader: contracts over this seat's translation. -/
namespace Go.Proofs.YtgohlhgapboijaaDoor
set_option linter.unusedVariables false
set_option linter.unusedSimpArgs false
open Go.RowKit Go.Extern.Stop Go.Stop Go.Extern

theorem ofInt8_one : BitVec.ofInt 8 1 = 1#8 := by decide
theorem and_one8 (x : Nat) (hx : x < 256) : bits .and .u8 (x : Int) 1 = ((x % 2 : Nat) : Int) := by
  have e : (BitVec.ofInt 8 (x : Int) &&& BitVec.ofInt 8 1).toNat = x % 2 := by
    rw [ofInt8_nat, ofInt8_one, BitVec.toNat_and, BitVec.toNat_ofNat, Nat.mod_eq_of_lt (by omega)]
    exact Nat.and_one_is_mod x
  show IntKind.u8.wrap (((BitVec.ofInt 8 (x : Int) &&& BitVec.ofInt 8 1).toNat : Nat) : Int) = _
  rw [e, IntKind.wrap_u8]
  omega
theorem Kp.fresh {b : Nat} {u v : World} (h : Kp b u v) {R : Nat} (hR : u.heap.size ≤ R) (o : Nat) (x : Value) : Kp b u (v.setCell ⟨R, o, none⟩ x) := by
  obtain ⟨h1, h2, h3, h4, h5⟩ := h
  exact ⟨h1, h2, h3, Nat.le_trans h4 (by simp), fun i hi hn => (Below.heap_setCell v ⟨R, o, none⟩ x i (show i ≠ R by omega)).trans (h5 i hi hn)⟩
/-- a reader of the document's: its bytes lie below B0 -/
def RqAt (w : World) (b : Nat) (bs : List Nat) (p B0 : Nat) : Prop := ∃ a cap, RdBox w b (.slice a bs.length cap) p ∧ Bys w (.slice a bs.length cap) bs ∧ (0 < bs.length → ∀ g off, a = some ⟨g, off, none⟩ → g < B0) ∧ B0 ≤ b
theorem RqAt.lt {w : World} {b p B0 : Nat} {bs : List Nat} (h : RqAt w b bs p B0) : b < w.heap.size := by
  obtain ⟨_, _, h1, -⟩ := h
  exact Ext.lt (p := ⟨b, 0, none⟩) h1.1
theorem RqAt.base {w : World} {b p B0 : Nat} {bs : List Nat} (h : RqAt w b bs p B0) : B0 ≤ b := by
  obtain ⟨_, _, -, -, -, h4⟩ := h
  exact h4
theorem RqAt.mono {w w' : World} {b p B0 : Nat} {bs : List Nat} (h : RqAt w b bs p B0) (k : ∀ i, i < B0 → w'.heap[i]? = w.heap[i]?) (kb : w'.heap[b]? = w.heap[b]?) : RqAt w' b bs p B0 := by
  obtain ⟨a, cap, ⟨c0, c1, f1⟩, ⟨⟨a', cap', e, h1, h2, h3, h4⟩, h5⟩, h6, h7⟩ := h
  refine ⟨a, cap, ⟨(World.cell?_of_block (a := ⟨b, 0, none⟩) kb).trans c0, (World.cell?_of_block (a := ⟨b, 1, none⟩) kb).trans c1, (World.frozen?_of_block (a := ⟨b, 1, none⟩) kb).trans f1⟩, ⟨⟨a', cap', e, h1, h2, h3, fun g off ha j u hu => ?_⟩, h5⟩, h6, h7⟩
  simp only [Value.slice.injEq] at e
  obtain ⟨rfl, -, -⟩ := e
  have hj : j < bs.length := by have := (List.getElem?_eq_some_iff.1 hu).1; simpa using this
  exact (World.cell?_of_block (a := ⟨g, off + j, none⟩) (k g (h6 (by omega) g off ha))).trans (h4 g off ha j u hu)
theorem RqAt.ext {w w' : World} {b p B0 : Nat} {bs : List Nat} (h : RqAt w b bs p B0) (k : Ext w w') : RqAt w' b bs p B0 :=
  h.mono (fun i hi => k.block (by have := h.lt; have := h.base; omega)) (k.block h.lt)
theorem RqAt.kp {w w' : World} {b c p B0 : Nat} {bs : List Nat} (h : RqAt w b bs p B0) (k : Kp c w w') (hc : B0 ≤ c) (hb : b ≠ c) : RqAt w' b bs p B0 :=
  h.mono (fun i hi => k.block (by have := h.lt; have := h.base; omega) (by omega)) (k.block h.lt hb)
theorem RqAt.set {w : World} {b p B0 : Nat} {bs : List Nat} (h : RqAt w b bs p B0) (q : Nat) : RqAt (w.setCell ⟨b, 1, none⟩ (.int .i64 (q : Int))) b bs q B0 := by
  obtain ⟨a, cap, h1, ⟨⟨a', cap', e, g1, g2, g3, g4⟩, h5⟩, h6, h7⟩ := h
  refine ⟨a, cap, h1.set q, ⟨⟨a', cap', e, g1, g2, g3, fun g off ha j u hu => ?_⟩, h5⟩, h6, h7⟩
  have hj : j < bs.length := by have := (List.getElem?_eq_some_iff.1 hu).1; simpa using this
  simp only [Value.slice.injEq] at e
  obtain ⟨rfl, -, -⟩ := e
  have hg := h6 (by omega) g off ha
  exact (World.cell?_setCell_other w ⟨b, 1, none⟩ ⟨g, off + j, none⟩ (.int .i64 (q : Int)) (by first | (simp; done) | (simp; omega))).trans (g4 g off ha j u hu)
theorem RqAt.fresh {w : World} {b p B0 : Nat} {bs : List Nat} (h : RqAt w b bs p B0) {R : Nat} (hR : B0 ≤ R) (hb : b ≠ R) (o : Nat) (x : Value) : RqAt (w.setCell ⟨R, o, none⟩ x) b bs p B0 := h.kp ((Kp.refl R w).set o x) hR hb
/-- a number and an error, the reader's place -/
def RqPost (w : World) (b B0 : Nat) (bs : List Nat) (v : Int) (q : Nat) (f : Fall) (e : Ending) (w' : World) : Prop := ∃ c u, e = .returned (.tuple #[.int .i64 v, .agg #[.int .i64 c, u]]) ∧ Kp b w w' ∧ RqAt w' b bs q B0 ∧ RErrIs w' f c u
theorem ResAt.kpR {w w' : World} {b B : Nat} (h : ResAt w B) (k : Kp b w w') (hb : B ≠ b) : ResAt w' B :=
  ⟨k.cell h.1 hb, k.cell h.2.1 hb, (k.frozen (p := ⟨B, 0, none⟩) (Ext.lt (p := ⟨B, 0, none⟩) h.1) hb).trans h.2.2.1, (k.frozen (p := ⟨B, 1, none⟩) (Ext.lt (p := ⟨B, 1, none⟩) h.2.1) hb).trans h.2.2.2⟩
end Go.Proofs.YtgohlhgapboijaaDoor

/- (*kinref2.Reader).Align: its contract over this seat's translation. -/
namespace Go.Proofs.YtgohlhgapboijaaDoor
set_option linter.unusedVariables false
set_option linter.unusedSimpArgs false
open Go.RowKit Go.Extern.Stop Go.Stop Go.Extern

/-- a variable of type kinref.Err -/
def EvAt (w : World) (B : Nat) (c : Int) (u : Value) : Prop := w.cell? ⟨B, 0, none⟩ = some (.int .i64 c) ∧ w.cell? ⟨B, 1, none⟩ = some u ∧ w.frozen? ⟨B, 0, none⟩ = false ∧ w.frozen? ⟨B, 1, none⟩ = false
theorem EvAt.ext {w w' : World} {B : Nat} {c : Int} {u : Value} (h : EvAt w B c u) (k : Ext w w') : EvAt w' B c u := by
  obtain ⟨h0, h1, h2, h3⟩ := h
  exact ⟨k.cell h0, k.cell h1, (Below.frozen k (Ext.lt h0)).trans h2, (Below.frozen k (Ext.lt h1)).trans h3⟩
theorem EvAt.kp {w w' : World} {b B : Nat} {c : Int} {u : Value} (h : EvAt w B c u) (k : Kp b w w') (hb : B ≠ b) : EvAt w' B c u :=
  ⟨k.cell h.1 hb, k.cell h.2.1 hb, (k.frozen (p := ⟨B, 0, none⟩) (Ext.lt (p := ⟨B, 0, none⟩) h.1) hb).trans h.2.2.1, (k.frozen (p := ⟨B, 1, none⟩) (Ext.lt (p := ⟨B, 1, none⟩) h.2.1) hb).trans h.2.2.2⟩
theorem EvAt.set {w : World} {B : Nat} {c : Int} {u : Value} (h : EvAt w B c u) (c' : Int) (u' : Value) : EvAt ((w.setCell ⟨B, 0, none⟩ (.int .i64 c')).setCell ⟨B, 1, none⟩ u') B c' u' := by
  obtain ⟨h0, h1, h2, h3⟩ := h
  have e0 := World.cell?_setCell_same _ _ (.int .i64 c') h0
  have e1 := (World.cell?_setCell_other w ⟨B, 0, none⟩ ⟨B, 1, none⟩ (.int .i64 c') (by simp)).trans h1
  have e2 := World.cell?_setCell_same _ _ u' e1
  have e3 := (World.cell?_setCell_other (w.setCell ⟨B, 0, none⟩ (.int .i64 c')) ⟨B, 1, none⟩ ⟨B, 0, none⟩ u' (by simp)).trans e0
  exact ⟨e3, e2, by simpa using h2, by simpa using h3⟩
def RqaPost (w : World) (b B0 : Nat) (bs : List Nat) (q : Nat) (f : Fall) (e : Ending) (w' : World) : Prop := ∃ c u, e = .returned (.agg #[.int .i64 c, u]) ∧ Kp b w w' ∧ RqAt w' b bs q B0 ∧ RErrIs w' f c u
end Go.Proofs.YtgohlhgapboijaaDoor

/- kinlaw2.BitsReads: the walk. -/
namespace Go.Proofs.YtgohlhgapboijaaDoor
set_option linter.unusedVariables false
set_option linter.unusedSimpArgs false
open Go.RowKit Go.Extern.Stop Go.Stop Go.Extern

theorem xor_byte (x : Int) : ∃ y : Nat, y < 256 ∧ bits .xor .u8 x 255 = (y : Int) := by
  obtain ⟨z, hz⟩ : ∃ z, bits .xor .u8 x 255 = IntKind.u8.wrap z := ⟨_, rfl⟩
  rw [hz, IntKind.wrap_u8]
  exact ⟨(z % 256).toNat, by omega, by omega⟩
theorem rdP_le {bs : List Nat} {p : Nat} {n : Int} (h : p ≤ 8 * bs.length) : rdP bs p n ≤ 8 * bs.length := by
  unfold rdP
  split
  · rename_i h1
    unfold rdF at h1
    split at h1
    · split at h1
      · omega
      · cases h1
    · cases h1
  · exact h
theorem RErrIs.form {w : World} {f : Fall} {c : Int} {u : Value} (h : RErrIs w f c u) : ∃ a n cap, u = .slice a n cap := by
  cases f with
  | none => exact ⟨none, 0, 0, h.2⟩
  | some a => obtain ⟨x, y, e, -⟩ := h.2.2; exact ⟨_, _, _, e⟩
/-- bytes of the call's own that may be written -/
def CsAt (w : World) (B1 B2 : Nat) (a : Option Addr) (n : Nat) : Prop := 0 < n → ∃ g, a = some ⟨g, 0, none⟩ ∧ (B1 ≤ g ∧ g < B2) ∧ ∀ j, j < n → (∃ x : Nat, x < 256 ∧ w.cell? ⟨g, j, none⟩ = some (.int .u8 (x : Int))) ∧ w.frozen? ⟨g, j, none⟩ = false
theorem CsAt.ext {w w' : World} {B1 B2 : Nat} {a : Option Addr} {n : Nat} (h : CsAt w B1 B2 a n) (k : Ext w w') : CsAt w' B1 B2 a n := fun h0 => by
  obtain ⟨g, e, hg, hj⟩ := h h0
  refine ⟨g, e, hg, fun j h1 => ?_⟩
  obtain ⟨⟨x, hx, c⟩, f⟩ := hj j h1
  exact ⟨⟨x, hx, k.cell c⟩, (Below.frozen k (Ext.lt c)).trans f⟩
theorem CsAt.of {w : World} {base n cap : Nat} {a : Option Addr} {bs : List Nat} (h : w.ownsRow base 5 1 (.slice a n cap) n (byC bs)) (hb : ∀ x ∈ bs, x < 256) : CsAt w base w.heap.size a n := fun hn => by
  obtain ⟨hl, h' | ⟨g, cap', cur, e', hb', hg, h1, h2, hs, ht⟩⟩ := h
  · omega
  · simp only [Value.slice.injEq] at e'
    obtain ⟨rfl, -, rfl⟩ := e'
    rw [byC_length] at hl
    refine ⟨g, rfl, ⟨hb', (Array.getElem?_eq_some_iff.1 hg).1⟩, fun j hj => ⟨⟨bs.getD j 0, ?_, ?_⟩, by simp [World.frozen?, hg]⟩⟩
    · have : j < bs.length := by omega
      exact hb _ (by rw [List.getD, List.getElem?_eq_getElem this]; exact List.getElem_mem this)
    · have : (byC bs)[j]? = some (.int .u8 ((bs.getD j 0 : Nat) : Int)) := by
        unfold byC
        rw [List.getElem?_map, nget_of_lt (by omega)]
        rfl
      rw [← ht, List.getElem?_take] at this
      split at this
      · simp [World.cell?, hg]
        simpa using this
      · cases this
theorem CsAt.set {w : World} {B1 B2 g n i : Nat} {y : Nat} (h : CsAt w B1 B2 (some ⟨g, 0, none⟩) n) (hy : y < 256) : CsAt (w.setCell ⟨g, i, none⟩ (.int .u8 (y : Int))) B1 B2 (some ⟨g, 0, none⟩) n := fun h0 => by
  obtain ⟨g', e, hg, hj⟩ := h h0
  simp only [Option.some.injEq, Addr.mk.injEq, and_true] at e
  subst e
  refine ⟨g, rfl, hg, fun j h1 => ?_⟩
  obtain ⟨⟨x, hx, c⟩, f⟩ := hj j h1
  refine ⟨?_, by simpa using f⟩
  by_cases hij : i = j
  · subst hij
    exact ⟨y, hy, World.cell?_setCell_same _ _ _ c⟩
  · exact ⟨x, hx, (cell_off_ne _ hij).trans c⟩
theorem RqAt.new {w wi : World} {a : Option Addr} {cap : Nat} {bs : List Nat} (T : TypeId) (h : Bys w (.slice a bs.length cap) bs) (k : Ext w wi) : RqAt (wi.alloc (.cells #[.slice a bs.length cap, .int .i64 0] T)) wi.heap.size bs 0 w.heap.size := by
  refine ⟨a, cap, ⟨by simp, by simp, by simp⟩, (h.ext k).ext ((Ext.refl wi).alloc _), fun hn g off ha => ?_, k.size⟩
  subst ha
  exact Ext.lt (h.at (nget_of_lt hn))
end Go.Proofs.YtgohlhgapboijaaDoor

/- What the readers of codes answer, within bounds: plain. -/
namespace Go.Proofs.YtgohlhgapboijaaDoor
set_option linter.unusedVariables false
set_option linter.unusedSimpArgs false
open Go.RowKit Go.Extern.Stop Go.Stop Go.Extern

theorem ugG_err {bs : List Nat} {p : Nat} {most : Int} {a : List (ByteArray × Int) × Int} {v : Int} {q : Nat} (h : ugG bs p most = (some a, v, q)) : v = 0 := by
  unfold ugG ueB at h
  split at h
  · simp only [Prod.mk.injEq] at h; exact h.2.1.symm
  · split at h
    · simp only [Prod.mk.injEq] at h; exact h.2.1.symm
    · simp at h
theorem sgG_err {bs : List Nat} {p : Nat} {most : Int} {a : List (ByteArray × Int) × Int} {v : Int} {q : Nat} (h : sgG bs p most = (some a, v, q)) : v = 0 := by
  unfold sgG seB at h
  split at h
  · simp only [Prod.mk.injEq] at h; exact h.2.1.symm
  · split at h
    · simp only [Prod.mk.injEq] at h; exact h.2.1.symm
    · simp at h
theorem rgG_err {bs : List Nat} {p : Nat} {k most : Int} {a : List (ByteArray × Int) × Int} {v : Int} {q : Nat} (h : rgG bs p k most = (some a, v, q)) : v = 0 := by
  unfold rgG at h
  split at h
  · unfold riE at h
    split at h
    · simp only [Prod.mk.injEq] at h; exact h.2.1.symm
    · unfold riZ at h
      split at h
      · split at h
        · simp only [Prod.mk.injEq] at h; exact h.2.1.symm
        · simp at h
      · simp only [Prod.mk.injEq] at h; exact h.2.1.symm
  · simp only [Prod.mk.injEq] at h; exact h.2.1.symm
theorem ugG_code {bs : List Nat} {p : Nat} {most v : Int} {q : Nat} (h : ugG bs p most = (none, v, q)) : ∃ V : Nat, v = (V : Int) ∧ V ≤ 1073741824 ∧ v ≤ most ∧ ueR bs 31 0 p = (none, v, q) ∧ UeIs bs p V ∧ q = p + (ueL V).length ∧ q ≤ 8 * bs.length := by
  obtain ⟨R, hR⟩ : ∃ R, ueR bs 31 0 p = R := ⟨_, rfl⟩
  unfold ugG at h
  rw [hR] at h
  obtain ⟨f, u, z⟩ := R
  cases f with
  | some a => simp [ueB] at h
  | none =>
    simp only [ueB] at h
    split at h
    · simp at h
    · rename_i hb
      simp only [Prod.mk.injEq, true_and] at h
      obtain ⟨rfl, rfl⟩ := h
      obtain ⟨V, rfl, h2, h3, h4, h5⟩ := ueR_code hR
      exact ⟨V, rfl, by omega, by omega, hR, h3, h4, h5⟩
theorem ugG_of {bs : List Nat} {p V : Nat} {most : Int} (h : UeIs bs p V) (h1 : V ≤ 1073741824) (h2 : (V : Int) ≤ most) : ugG bs p most = (none, (V : Int), p + (ueL V).length) := by
  unfold ugG
  rw [ueR_of h h1]
  simp only [ueB]
  rw [if_neg (by omega)]
theorem ugG_less {bs : List Nat} {p : Nat} {most v : Int} {q : Nat} (h : ugG bs p most = (none, v, q)) : ugG bs p (v - 1) = (some ([(codesS, (q : Int))], 3), 0, q) := by
  obtain ⟨V, rfl, h1, h2, h3, -⟩ := ugG_code h
  unfold ugG
  rw [h3]
  simp only [ueB]
  rw [if_pos (by omega)]
theorem sgG_code {bs : List Nat} {p : Nat} {most v : Int} {q : Nat} (h : sgG bs p most = (none, v, q)) : ∃ V : Nat, v = unfoldI (V : Int) ∧ V < 2147483648 ∧ absI v ≤ 536870912 ∧ absI v ≤ most ∧ ueR bs 31 0 p = (none, (V : Int), q) ∧ UeIs bs p V ∧ q = p + (ueL V).length ∧ q ≤ 8 * bs.length := by
  obtain ⟨R, hR⟩ : ∃ R, ueR bs 31 0 p = R := ⟨_, rfl⟩
  unfold sgG at h
  rw [hR] at h
  obtain ⟨f, u, z⟩ := R
  cases f with
  | some a => simp [seB] at h
  | none =>
    simp only [seB] at h
    split at h
    · simp at h
    · rename_i hb
      simp only [Prod.mk.injEq, true_and] at h
      obtain ⟨rfl, rfl⟩ := h
      obtain ⟨V, rfl, h2, h3, h4, h5⟩ := ueR_code hR
      exact ⟨V, rfl, h2, by omega, by omega, hR, h3, h4, h5⟩
theorem sgG_less {bs : List Nat} {p : Nat} {most v : Int} {q : Nat} (h : sgG bs p most = (none, v, q)) : sgG bs p (absI v - 1) = (some ([(codesS, (q : Int))], 3), 0, q) := by
  obtain ⟨V, rfl, h1, h2, h3, h4, -⟩ := sgG_code h
  unfold sgG
  rw [h4]
  simp only [seB]
  rw [if_pos (by omega)]
theorem abs_le {v : Int} {m : Int} : absI v ≤ m ↔ v ≤ m ∧ -v ≤ m := by unfold absI; omega
theorem unfold_fold {v : Int} (h : -2305843009213693952 ≤ v ∧ v ≤ 2305843009213693952) : unfoldI (foldI v) = v := by
  unfold foldI
  rw [if_neg (by omega)]
  split
  · unfold unfoldI; rw [if_neg (by omega), if_pos (by omega)]; omega
  · unfold unfoldI; rw [if_neg (by omega), if_neg (by omega)]; omega
theorem fold_unfold {u : Int} (h : 0 ≤ u ∧ u ≤ 4611686018427387904) : foldI (unfoldI u) = u := by
  unfold unfoldI
  rw [if_neg (by omega)]
  split
  · unfold foldI; rw [if_neg (by omega), if_pos (by omega)]; omega
  · unfold foldI; rw [if_neg (by omega), if_neg (by omega)]; omega
theorem sgG_of {bs : List Nat} {p : Nat} {v most : Int} (hs : seOk v) (h : UeIs bs p (foldI v).toNat) (h2 : absI v ≤ most) : sgG bs p most = (none, v, p + (ueL (foldI v).toNat).length) := by
  have hf := fold_ok hs
  unfold ueOk at hf
  have hv := unfold_fold (v := v) (by unfold seOk at hs; omega)
  have hsv : absI v ≤ 536870912 := abs_le.2 (by unfold seOk at hs; omega)
  unfold sgG
  rw [ueR_of h (by omega)]
  simp only [seB]
  rw [show (((foldI v).toNat : Nat) : Int) = foldI v by omega, hv, if_neg (by omega)]
theorem rgG_code {bs : List Nat} {p : Nat} {k most v : Int} {q : Nat} (hp : p ≤ 8 * bs.length) (h : rgG bs p k most = (none, v, q)) : (0 ≤ k ∧ k ≤ 15) ∧ ∃ V : Nat, v = (V : Int) ∧ V ≤ 1073741824 ∧ v ≤ most ∧ RiIs bs p V k.toNat ∧ q = p + (riL V k.toNat).length ∧ q ≤ 8 * bs.length := by
  unfold rgG at h
  split at h
  · rename_i hk
    obtain ⟨V, rfl, h1, h2, h3, h4, h5⟩ := riE_code hp h
    exact ⟨hk, V, rfl, h1, h2, h3, h4, h5⟩
  · simp [range] at h
theorem rgG_of {bs : List Nat} {p V : Nat} {k most : Int} (hk : 0 ≤ k ∧ k ≤ 15) (h : RiIs bs p V k.toNat) (h1 : V ≤ 1073741824) (h2 : (V : Int) ≤ most) : rgG bs p k most = (none, (V : Int), p + (riL V k.toNat).length) := by
  unfold rgG
  rw [if_pos hk, riE_of h h1 h2]
theorem riE_less {bs : List Nat} {p k : Nat} {most v : Int} {q : Nat} (h : riE bs k most (riQ bs 24 0 p) = (none, v, q)) : riE bs k (v - 1) (riQ bs 24 0 p) = (some ([(codesS, (q : Int))], 3), 0, q) := by
  obtain ⟨R, hR⟩ : ∃ R, riQ bs 24 0 p = R := ⟨_, rfl⟩
  rw [hR] at h ⊢
  obtain ⟨f, u, z⟩ := R
  cases f with
  | some a => simp [riE] at h
  | none =>
    simp only [riE, riZ] at h ⊢
    split at h
    · rename_i hw
      split at h
      · simp at h
      · simp only [Prod.mk.injEq, true_and] at h
        obtain ⟨rfl, rfl⟩ := h
        rw [if_pos hw, if_pos (by unfold riX; omega)]
    · simp at h
theorem rgG_less {bs : List Nat} {p : Nat} {k most v : Int} {q : Nat} (h : rgG bs p k most = (none, v, q)) : rgG bs p k (v - 1) = (some ([(codesS, (q : Int))], 3), 0, q) := by
  unfold rgG at h ⊢
  split at h
  · rename_i hk
    rw [if_pos hk]
    exact riE_less h
  · simp [range] at h
theorem szUe_no {v : Int} (h : ¬ ueOk v) : szUe v = 0 := by unfold szUe; rw [if_neg h]
theorem szUe_yes {v : Int} (h : ueOk v) : szUe v = ((ueL v.toNat).length : Int) ∧ 0 < szUe v ∧ szUe v ≤ 61 := by
  have e : szUe v = ((ueL v.toNat).length : Int) := by unfold szUe; rw [if_pos h]
  unfold ueOk at h
  obtain ⟨b0, b1, b2⟩ := blen_bounds (v.toNat + 1) (by omega) (by omega)
  have b3 := blen_le (u := v.toNat + 1) (k := 31) (by omega) (by omega) (by omega)
  have := ueL_length v.toNat
  exact ⟨e, by omega, by omega⟩
theorem szUe_le {a b : Int} (ha : ueOk a) (hb : ueOk b) (h : a ≤ b) : szUe a ≤ szUe b := by
  rw [(szUe_yes ha).1, (szUe_yes hb).1, ueL_length, ueL_length]
  unfold ueOk at ha hb
  have := blen_mono (a := a.toNat + 1) (b := b.toNat + 1) (by omega) (by omega) (by omega)
  omega
theorem szRi_no {v k : Int} (h : ¬ riOk v k) : szRi v k = 0 := by unfold szRi; rw [if_neg h]
theorem szRi_yes {v k : Int} (h : riOk v k) : szRi v k = ((riL v.toNat k.toNat).length : Int) ∧ 0 < szRi v k ∧ szRi v k ≤ 55 := by
  have e : szRi v k = ((riL v.toNat k.toNat).length : Int) := by unfold szRi; rw [if_pos h]
  unfold riOk at h
  have := riL_length v.toNat k.toNat
  have h3 : 0 < (riL v.toNat k.toNat).length ∧ (riL v.toNat k.toNat).length ≤ 55 := by
    rw [this]
    generalize v.toNat / 2 ^ k.toNat = q
    split <;> omega
  exact ⟨e, by omega, by omega⟩
theorem szRi_le {a b k : Int} (ha : riOk a k) (hb : riOk b k) (h : a ≤ b) : szRi a k ≤ szRi b k := by
  rw [(szRi_yes ha).1, (szRi_yes hb).1, riL_length, riL_length]
  unfold riOk at ha hb
  have := Nat.div_le_div_right (c := 2 ^ k.toNat) (show a.toNat ≤ b.toNat by omega)
  generalize a.toNat / 2 ^ k.toNat = q1 at *
  generalize b.toNat / 2 ^ k.toNat = q2 at *
  split
  · split <;> omega
  · rw [if_neg (by omega)]; omega
end Go.Proofs.YtgohlhgapboijaaDoor
