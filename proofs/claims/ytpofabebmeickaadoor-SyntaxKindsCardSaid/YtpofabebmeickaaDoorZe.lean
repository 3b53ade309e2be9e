/- Contracts of this seat: Px4, Pf1, Pc1, Py1, Py2, Py3, Pw1. -/
import Derived.Test.YtpofabebmeickaaDoorZd
import Derived.Test.YtpofabebmeickaaDoorPa7
import Derived.Test.YtpofabebmeickaaDoorZb
import Derived.BigQuiet
import Derived.Deep.QuietTactic
import Derived.BigRegion
/- kinref12.Encoder's End: its contract over this seat's translation. -/
namespace Go.Proofs.YtpofabebmeickaaDoor
set_option linter.unusedVariables false
set_option linter.unusedSimpArgs false
open Go.RowKit Go.Extern.Stop Go.Stop Go.Extern

theorem Bys.uptoX {w : World} {a : Option Addr} {n cap : Nat} {bs : List Nat} (h : Bys w (.slice a n cap) bs) {k : Nat} (hk : k ≤ n) : Bys w (.slice a k cap) (bs.take k) := by
  have hl := h.len
  obtain ⟨⟨a', cap', e, h1, h2, h3, h4⟩, hb, hm⟩ := h
  simp only [Value.slice.injEq] at e
  obtain ⟨rfl, -, rfl⟩ := e
  have ht : (bs.take k).length = k := by rw [List.length_take]; omega
  refine ⟨⟨a, cap, by rw [ht], by rw [ht]; omega, h2, fun h0 => h3 (by rw [ht] at h0; omega), fun g off ha j u hu => ?_⟩, fun x hx => hb x (List.mem_of_mem_take hx), by rw [ht]; omega⟩
  rw [List.getElem?_map, List.getElem?_take] at hu
  split at hu
  · exact h4 g off ha j u (by rw [List.getElem?_map]; exact hu)
  · cases hu
def XvPost (w : World) (bs : List Nat) (e : Ending) (w' : World) : Prop := ∃ u, e = .returned u ∧ Bys w' u bs ∧ w'.ownsRow w.heap.size 5 1 u bs.length (byC bs) ∧ Ext w w'
end Go.Proofs.YtpofabebmeickaaDoor

/- kinlaw12.first; an encoder and a decoder beside each other. -/
namespace Go.Proofs.YtpofabebmeickaaDoor
set_option linter.unusedVariables false
set_option linter.unusedSimpArgs false
open Go.RowKit Go.Extern.Stop Go.Stop Go.Extern

/-- a decoder beside an encoder's call -/
theorem DcAt.pkp {F : Nat → Prop} {w w' : World} {d b : Nat} {B : Nat → Prop} {bs : List Nat} {s : Dc} (h : DcAt F w d bs s) (k : PKp b B w w') (hd : d ≠ b) (hdB : B d) (hF : ∀ g, ¬ F g → B g ∧ g ≠ b) : DcAt F w' d bs s := by
  obtain ⟨a, cap, h1, h3, h4⟩ := h
  refine ⟨a, cap, h1.same (k.2.2 d h1.lt hd (.inl hdB)), ⟨?_, h3.2⟩, h4⟩
  obtain ⟨a', cap', e, e1, e2, e3, e4⟩ := h3.1
  refine ⟨a', cap', e, e1, e2, e3, fun g off ha j u hu => ?_⟩
  have c := e4 g off ha j u hu
  simp only [Value.slice.injEq] at e
  obtain ⟨rfl, -, -⟩ := e
  obtain ⟨f1, f2⟩ := hF g (h4 g off ha).2
  exact k.cell c f1 f2
theorem EcAt.kp {w w' : World} {b d : Nat} {B : Nat → Prop} {s : Ec} (h : EcAt w b B s) (k : Kp d w w') (hd : b ≠ d) (hdB : B d) : EcAt w' b B s := by
  obtain ⟨v, h1, h2, h3, h4, h5⟩ := h
  refine ⟨v, h1.same (k.block h1.lt hd), ?_, h3, h4, fun g hg => Nat.lt_of_lt_of_le (h5 g hg) k.size⟩
  exact h2.kept (row := some d) k (.inr (fun e => h3 _ e hdB))
theorem s12 : trimE (allE (codE (codE newE 1024 false) 1024 true)) = [63, 255, 252] ∧ lenE (codE (codE newE 1024 false) 1024 true) = 4 ∧ chance 1024 = true ∧ chance 2048 = false := by decide +kernel
theorem d12 : upD (newD []) ((newD []).wid / 2) = false ∧ ovrD [] (parD [] (newD []) ((newD []).wid / 2)) = 4 := by decide +kernel
theorem st12 : strOf [63, 255, 252] = ⟨#[63, 255, 252]⟩ := by kernel_rfl
end Go.Proofs.YtpofabebmeickaaDoor

/- The landed encoder and the document's beside each other: contracts. -/
namespace Go.Proofs.YtpofabebmeickaaDoor
set_option linter.unusedVariables false
set_option linter.unusedSimpArgs false
open Go.RowKit Go.Extern.Stop Go.Stop Go.Extern

/-- what lies below a base stays -/
def Kb (B : Nat) (w w' : World) : Prop := (w'.os = w.os ∧ w'.tape = w.tape ∧ w'.output = w.output) ∧ w.heap.size ≤ w'.heap.size ∧ ∀ k, k < w.heap.size → k < B → w'.heap[k]? = w.heap[k]?
theorem Kb.of_ext {B : Nat} {w w' : World} (h : Ext w w') : Kb B w w' := ⟨⟨Below.os h, Below.tape h, Below.output h⟩, h.size, fun _ hi _ => h.block hi⟩
theorem Kb.refl (B : Nat) (w : World) : Kb B w w := Kb.of_ext (Ext.refl w)
theorem Kb.trans {B : Nat} {u v w : World} (h : Kb B u v) (k : Kb B v w) : Kb B u w :=
  ⟨⟨k.1.1.trans h.1.1, k.1.2.1.trans h.1.2.1, k.1.2.2.trans h.1.2.2⟩, Nat.le_trans h.2.1 k.2.1, fun i hi hb => (k.2.2 i (Nat.lt_of_lt_of_le hi h.2.1) hb).trans (h.2.2 i hi hb)⟩
theorem Kb.ext {B : Nat} {u v w : World} (h : Kb B u v) (k : Ext v w) : Kb B u w := h.trans (Kb.of_ext k)
theorem Kb.size {B : Nat} {u v : World} (h : Kb B u v) : u.heap.size ≤ v.heap.size := h.2.1
theorem Kb.out {B : Nat} {u v w : World} (h : Ext u v) (k : Kb B v w) (hB : u.heap.size ≤ B) : Ext u w :=
  Below.trans (c := w) h ⟨k.1.1, k.1.2.1, k.1.2.2, k.2.1, fun i hi => k.2.2 i (Nat.lt_of_lt_of_le hi h.size) (by omega)⟩
theorem Kb.of_pkp {B b : Nat} {P : Nat → Prop} {w w' : World} (k : PKp b P w w') (hb : B ≤ b) (hP : ∀ i, i < B → P i) : Kb B w w' :=
  ⟨k.1, k.2.1, fun i hi hB => k.2.2 i hi (by omega) (.inl (hP i hB))⟩
theorem own_block {w w' : World} {base : Nat} {e : TypeId} {size n : Nat} {v : Value} {xs : List Value} (h : w.ownsRow base e size v n xs) (k : ∀ g, v.ownBlock = some g → w'.heap[g]? = w.heap[g]?) : w'.ownsRow base e size v n xs := by
  obtain ⟨h1, h2⟩ := h
  refine ⟨h1, ?_⟩
  rcases h2 with h2 | ⟨g, cap, cur, rfl, hg, hh, r⟩
  · exact .inl h2
  · exact .inr ⟨g, cap, cur, rfl, hg, (k g rfl).trans hh, r⟩
/-- both encoders, above a base -/
def Bo2 (B : Nat) (w : World) (b x : Nat) (s : Ec) (q : Xe) : Prop := ∃ v u, EcBox w b v s.held s.run s.low s.wid ∧ w.ownsRow 0 5 1 v s.done.length (byC s.done) ∧ XeBox w x u q.rr ∧ w.ownsRow 0 5 1 u q.bs.length (byC q.bs) ∧
  (B ≤ b ∧ B ≤ x ∧ b ≠ x) ∧ (∀ g, v.ownBlock = some g → B ≤ g ∧ g ≠ b ∧ g ≠ x ∧ u.ownBlock ≠ some g) ∧ (∀ g, u.ownBlock = some g → B ≤ g ∧ g ≠ b ∧ g ≠ x)
theorem Bo2.ext {B : Nat} {w w' : World} {b x : Nat} {s : Ec} {q : Xe} (h : Bo2 B w b x s q) (k : Ext w w') : Bo2 B w' b x s q := by
  obtain ⟨v, u, h1, h2, h3, h4, h5⟩ := h
  exact ⟨v, u, h1.ext k, ownsRow_ext h2 k, h3.ext k, ownsRow_ext h4 k, h5⟩
theorem Bo2.ec {B : Nat} {w : World} {b x : Nat} {s : Ec} {q : Xe} (h : Bo2 B w b x s q) (hB : B ≤ w.heap.size) : ∃ P, EcAt w b P s ∧ ∀ s' w', EcAt w' b P s' → PKp b P w w' → Bo2 B w' b x s' q ∧ Kb B w w' := by
  obtain ⟨v, u, h1, h2, h3, h4, ⟨h5, h6, h7⟩, h8, h9⟩ := h
  refine ⟨fun k => k < B ∨ k = b ∨ k = x ∨ u.ownBlock = some k, ⟨v, h1, h2, ?_, .inr (.inl rfl), ?_⟩, ?_⟩
  · rintro g hg (h | rfl | rfl | h)
    · have := (h8 g hg).1; omega
    · exact (h8 g hg).2.1 rfl
    · exact (h8 g hg).2.2.1 rfl
    · exact (h8 g hg).2.2.2 h
  · rintro g (h | rfl | rfl | h)
    · omega
    · exact h1.lt
    · exact h3.lt
    · exact (h4.lt g h).2
  · rintro s' w' ⟨v', k1, k2, k3, -, -⟩ hk
    refine ⟨⟨v', u, k1, k2, h3.same (hk.2.2 x h3.lt (fun e => h7 e.symm) (.inl (.inr (.inr (.inl rfl))))), own_block h4 (fun g hg => hk.2.2 g (h4.lt g hg).2 (h9 g hg).2.1 (.inl (.inr (.inr (.inr hg))))), ⟨h5, h6, h7⟩, fun g hg => ?_, h9⟩, Kb.of_pkp hk h5 (fun i hi => .inl hi)⟩
    have := k3 g hg
    simp only [not_or] at this
    exact ⟨by omega, this.2.1, this.2.2.1, this.2.2.2⟩
theorem Bo2.xe {B : Nat} {w : World} {b x : Nat} {s : Ec} {q : Xe} (h : Bo2 B w b x s q) (hB : B ≤ w.heap.size) : ∃ P, XeAt w x P q ∧ ∀ q' w', XeAt w' x P q' → PKp x P w w' → Bo2 B w' b x s q' ∧ Kb B w w' := by
  obtain ⟨v, u, h1, h2, h3, h4, ⟨h5, h6, h7⟩, h8, h9⟩ := h
  refine ⟨fun k => k < B ∨ k = b ∨ k = x ∨ v.ownBlock = some k, ⟨u, h3, h4, ?_, .inr (.inr (.inl rfl)), ?_⟩, ?_⟩
  · rintro g hg (h | rfl | rfl | h)
    · have := (h9 g hg).1; omega
    · exact (h9 g hg).2.1 rfl
    · exact (h9 g hg).2.2 rfl
    · exact (h8 g h).2.2.2 hg
  · rintro g (h | rfl | rfl | h)
    · omega
    · exact h1.lt
    · exact h3.lt
    · exact (h2.lt g h).2
  · rintro q' w' ⟨u', k1, k2, k3, -, -⟩ hk
    refine ⟨⟨v, u', h1.same (hk.2.2 b h1.lt h7 (.inl (.inr (.inl rfl)))), own_block h2 (fun g hg => hk.2.2 g (h2.lt g hg).2 (h8 g hg).2.2.1 (.inl (.inr (.inr (.inr hg))))), k1, k2, ⟨h5, h6, h7⟩, fun g hg => ⟨(h8 g hg).1, (h8 g hg).2.1, (h8 g hg).2.2.1, fun e => ?_⟩, fun g hg => ?_⟩, Kb.of_pkp hk h6 (fun i hi => .inl hi)⟩
    · exact k3 g e (.inr (.inr (.inr hg)))
    · have := k3 g hg
      simp only [not_or] at this
      exact ⟨by omega, this.2.1, this.2.2.1⟩
def BfPost (B : Nat) (w : World) (b x : Nat) (s : Ec) (q : Xe) (e : Ending) (w' : World) : Prop := e = .returned (.tuple #[]) ∧ Bo2 B w' b x s q ∧ Kb B w w'
theorem bo_flat (B N b x : Nat) (up : Bool) (s : Ec) (q : Xe) (w : World) (h : Bo2 B w b x s q) (hB : B ≤ w.heap.size) (hk : okE N s) (hN : N ≤ 4000000) (hw : 16777216 ≤ s.wid) : Calls Tryd.prog 103 #[.pointer (some ⟨b, 0, none⟩), .bool up] w (BfPost B w b x (parE s (s.wid / 2) up) q) := by
  obtain ⟨P, h1, h2⟩ := h.ec hB
  refine (enflat_any b P N up s w h1 hk (by omega) hw).mono ?_
  rintro e w' ⟨rfl, k1, k2⟩
  exact ⟨rfl, h2 _ _ k1 k2⟩
def BcPost (B : Nat) (w : World) (b x : Nat) (p : Int) (s : Ec) (q : Xe) (e : Ending) (w' : World) : Prop := ∃ y, e = .returned y ∧ (∀ w'', ErrIs w'' (if chance p then none else some ([], 3)) y) ∧ Bo2 B w' b x s q ∧ Kb B w w'
theorem bo_code (B N b x : Nat) (p : Int) (up : Bool) (s : Ec) (q : Xe) (w : World) (h : Bo2 B w b x s q) (hB : B ≤ w.heap.size) (hk : okE N s) (hN : N ≤ 4000000) (hw : 16777216 ≤ s.wid) : Calls Tryd.prog 102 #[.pointer (some ⟨b, 0, none⟩), .int .i64 p, .bool up] w (BcPost B w b x p (codE s p up) q) := by
  obtain ⟨P, h1, h2⟩ := h.ec hB
  refine (encode_any b P N p up s w h1 hk (by omega) hw).mono ?_
  rintro e w' ⟨y, rfl, hy, k1, k2⟩
  refine ⟨y, rfl, ?_, h2 _ _ k1 k2⟩
  by_cases hc : chance p = true
  · rw [if_pos hc] at hy ⊢
    exact fun _ => hy
  · rw [if_neg hc] at hy ⊢
    exact fun _ => hy
def BxPost (B : Nat) (w : World) (b x : Nat) (p : Int) (s : Ec) (q : Xe) (e : Ending) (w' : World) : Prop := e = .returned (.agg #[.int .i64 (chC p), .slice none 0 0]) ∧ Bo2 B w' b x s q ∧ Kb B w w'
theorem Bo2.new {B : Nat} {w : World} {b x g cap : Nat} (h1 : EcBox w b (.slice none 0 0) (-1) 0 0 4294967295) (h2 : XeBox w x (.slice (some ⟨g, 0, none⟩) 4 cap) 4294967295) (h3 : w.ownsRow 0 5 1 (.slice (some ⟨g, 0, none⟩) 4 cap) 4 (byC [0, 0, 0, 0])) (h4 : B ≤ b) (h5 : B ≤ x) (h6 : b ≠ x) (h7 : B ≤ g) (h8 : g ≠ b) (h9 : g ≠ x) : Bo2 B w b x newE newX :=
  ⟨_, _, h1, World.ownsRow_nil _ _ _ _, h2, h3, ⟨h4, h5, h6⟩, fun g' hg' => by simp [Value.ownBlock] at hg', fun g' hg' => by
    simp only [Value.ownBlock, Option.some.injEq] at hg'
    subst hg'
    exact ⟨h7, h8, h9⟩⟩
end Go.Proofs.YtpofabebmeickaaDoor

/- A document's decoder of bits (kinref12): plain; next: its contract over this seat's translation. -/
namespace Go.Proofs.YtpofabebmeickaaDoor
set_option linter.unusedVariables false
set_option linter.unusedSimpArgs false
open Go.RowKit Go.Extern.Stop Go.Stop Go.Extern

structure Xc where
  pos : Nat
  dd : Nat
  rr : Nat
def nexX (bs : List Nat) (s : Xc) : Xc := { s with pos := s.pos + 1, dd := min (s.dd * 256 + bs.getD s.pos 0) 1099511627776 }
def stpX (bs : List Nat) (s : Xc) : Xc := nexX bs { s with rr := s.rr * 256 }
def nrmX (bs : List Nat) : Nat → Xc → Xc
  | 0, s => s
  | f + 1, s => if s.rr < 16777216 then nrmX bs f (stpX bs s) else s
def midX (s : Xc) (w : Nat) : Xc := if w ≤ s.dd then { s with dd := s.dd - w, rr := s.rr - w } else { s with rr := w }
def parX (bs : List Nat) (s : Xc) (w : Nat) : Xc := nrmX bs 3 (midX s w)
def okX (N : Nat) (s : Xc) : Prop := s.pos ≤ N ∧ s.dd ≤ 1099511627776 ∧ s.rr < 4294967296
theorem okX.mono {N M : Nat} {s : Xc} (h : okX N s) (k : N ≤ M) : okX M s := ⟨by have := h.1; omega, h.2⟩
theorem nexX_ok {bs : List Nat} {N : Nat} {s : Xc} (h : okX N s) : okX (N + 1) (nexX bs s) := by
  obtain ⟨h1, h2, h3⟩ := h
  exact ⟨by show s.pos + 1 ≤ _; omega, by show min _ _ ≤ _; omega, h3⟩
theorem stpX_ok {bs : List Nat} {N : Nat} {s : Xc} (h : okX N s) (hw : s.rr < 16777216) : okX (N + 1) (stpX bs s) :=
  nexX_ok (s := { s with rr := s.rr * 256 }) ⟨h.1, h.2.1, by show s.rr * 256 < _; omega⟩
theorem midX_ok {N w : Nat} {s : Xc} (h : okX N s) (hw : w ≤ s.rr) : okX N (midX s w) ∧ (midX s w).rr = if w ≤ s.dd then s.rr - w else w := by
  obtain ⟨h1, h2, h3⟩ := h
  unfold midX
  split
  · exact ⟨⟨h1, by show s.dd - w ≤ _; omega, by show s.rr - w < _; omega⟩, rfl⟩
  · exact ⟨⟨h1, h2, by show w < _; omega⟩, rfl⟩
/-- a document's decoder's cells; the last three may be written -/
def XcBox (w : World) (b : Nat) (v : Value) (s : Xc) : Prop := (w.cell? ⟨b, 0, none⟩ = some v ∧ w.cell? ⟨b, 1, none⟩ = some (.int .i64 (s.pos : Int)) ∧ w.cell? ⟨b, 2, none⟩ = some (.int .i64 (s.dd : Int)) ∧ w.cell? ⟨b, 3, none⟩ = some (.int .i64 (s.rr : Int))) ∧
  w.frozen? ⟨b, 1, none⟩ = false ∧ w.frozen? ⟨b, 2, none⟩ = false ∧ w.frozen? ⟨b, 3, none⟩ = false
section
variable {w w' : World} {b : Nat} {v : Value} {s : Xc}
theorem XcBox.same (x : XcBox w b v s) (k : w'.heap[b]? = w.heap[b]?) : XcBox w' b v s := by
  obtain ⟨⟨c0, c1, c2, c3⟩, f1, f2, f3⟩ := x
  have c : ∀ i, w'.cell? ⟨b, i, none⟩ = w.cell? ⟨b, i, none⟩ := fun i => World.cell?_of_block (a := ⟨b, i, none⟩) k
  have f : ∀ i, w'.frozen? ⟨b, i, none⟩ = w.frozen? ⟨b, i, none⟩ := fun i => World.frozen?_of_block (a := ⟨b, i, none⟩) k
  exact ⟨⟨(c 0).trans c0, (c 1).trans c1, (c 2).trans c2, (c 3).trans c3⟩, (f 1).trans f1, (f 2).trans f2, (f 3).trans f3⟩
theorem XcBox.lt (x : XcBox w b v s) : b < w.heap.size := Ext.lt (p := ⟨b, 0, none⟩) x.1.1
theorem XcBox.ext (x : XcBox w b v s) (k : Ext w w') : XcBox w' b v s := x.same (k.block x.lt)
theorem XcBox.set1 (x : XcBox w b v s) (k : Nat) : XcBox (w.setCell ⟨b, 1, none⟩ (.int .i64 (k : Int))) b v { s with pos := k } := by
  obtain ⟨⟨c0, c1, c2, c3⟩, f1, f2, f3⟩ := x
  exact ⟨⟨(cell_off_ne _ (by decide)).trans c0, World.cell?_setCell_same _ _ _ c1, (cell_off_ne _ (by decide)).trans c2, (cell_off_ne _ (by decide)).trans c3⟩, by simpa using f1, by simpa using f2, by simpa using f3⟩
theorem XcBox.set2 (x : XcBox w b v s) (k : Nat) : XcBox (w.setCell ⟨b, 2, none⟩ (.int .i64 (k : Int))) b v { s with dd := k } := by
  obtain ⟨⟨c0, c1, c2, c3⟩, f1, f2, f3⟩ := x
  exact ⟨⟨(cell_off_ne _ (by decide)).trans c0, (cell_off_ne _ (by decide)).trans c1, World.cell?_setCell_same _ _ _ c2, (cell_off_ne _ (by decide)).trans c3⟩, by simpa using f1, by simpa using f2, by simpa using f3⟩
theorem XcBox.set3 (x : XcBox w b v s) (k : Nat) : XcBox (w.setCell ⟨b, 3, none⟩ (.int .i64 (k : Int))) b v { s with rr := k } := by
  obtain ⟨⟨c0, c1, c2, c3⟩, f1, f2, f3⟩ := x
  exact ⟨⟨(cell_off_ne _ (by decide)).trans c0, (cell_off_ne _ (by decide)).trans c1, (cell_off_ne _ (by decide)).trans c2, World.cell?_setCell_same _ _ _ c3⟩, by simpa using f1, by simpa using f2, by simpa using f3⟩
end
def XcAt (F : Nat → Prop) (w : World) (b : Nat) (bs : List Nat) (s : Xc) : Prop := ∃ a cap, XcBox w b (.slice a bs.length cap) s ∧ Bys w (.slice a bs.length cap) bs ∧ (∀ g off, a = some ⟨g, off, none⟩ → g ≠ b ∧ ¬ F g)
theorem XcAt.ext {F : Nat → Prop} {w w' : World} {b : Nat} {bs : List Nat} {s : Xc} (h : XcAt F w b bs s) (k : Ext w w') : XcAt F w' b bs s := by
  obtain ⟨a, cap, h1, h2, h3⟩ := h
  exact ⟨a, cap, h1.ext k, h2.ext k, h3⟩
theorem XcAt.kp {F : Nat → Prop} {w w' : World} {b d : Nat} {bs : List Nat} {s : Xc} (h : XcAt F w b bs s) (k : Kp d w w') (hd : F d) (hb : b ≠ d) : XcAt F w' b bs s := by
  obtain ⟨a, cap, h1, h3, h4⟩ := h
  exact ⟨a, cap, h1.same (k.block h1.lt hb), ⟨row_kp h3.1 k (fun g off ha e => (h4 g off ha).2 (e ▸ hd)), h3.2⟩, h4⟩
/-- a call without a result -/
def XnPost (F : Nat → Prop) (w : World) (b : Nat) (bs : List Nat) (s : Xc) (e : Ending) (w' : World) : Prop := e = .returned (.tuple #[]) ∧ XcAt F w' b bs s ∧ Kp b w w'
end Go.Proofs.YtpofabebmeickaaDoor

/- kinref12's decoder: narrows, Flat, Code, Over: contracts over this seat's translation. -/
namespace Go.Proofs.YtpofabebmeickaaDoor
set_option linter.unusedVariables false
set_option linter.unusedSimpArgs false
open Go.RowKit Go.Extern.Stop Go.Stop Go.Extern

theorem nrmX_ok {bs : List Nat} {N : Nat} {s : Xc} : ∀ (f : Nat), okX N s → okX (N + f) (nrmX bs f s) := by
  intro f
  induction f generalizing s N with
  | zero => intro h; exact h
  | succ f ih =>
    intro h
    show okX _ (if s.rr < 16777216 then nrmX bs f (stpX bs s) else s)
    split
    · rename_i hw
      have := ih (stpX_ok (bs := bs) h hw)
      rw [show N + 1 + f = N + (f + 1) by omega] at this
      exact this
    · exact h.mono (by omega)
theorem parX_ok {bs : List Nat} {N w : Nat} {s : Xc} (h : okX N s) (h2 : w < s.rr) : okX (N + 3) (parX bs s w) := nrmX_ok 3 (midX_ok h (Nat.le_of_lt h2)).1
def XbPost (F : Nat → Prop) (w : World) (b : Nat) (bs : List Nat) (v : Bool) (s : Xc) (e : Ending) (w' : World) : Prop := e = .returned (.bool v) ∧ XcAt F w' b bs s ∧ Kp b w w'
def ovrX (bs : List Nat) (s : Xc) : Nat := s.pos - bs.length
end Go.Proofs.YtpofabebmeickaaDoor

/- kinref12's decoder: Code, NewDecoder: contracts over this seat's translation; the two decoders side by side. -/
namespace Go.Proofs.YtpofabebmeickaaDoor
set_option linter.unusedVariables false
set_option linter.unusedSimpArgs false
open Go.RowKit Go.Extern.Stop Go.Stop Go.Extern

theorem Kp.setNew {b : Nat} {u v : World} (h : Kp b u v) {p : Addr} (hp : u.heap.size ≤ p.block) (x : Value) : Kp b u (v.setCell p x) :=
  ⟨show v.os = u.os from World.grownBy.os h, show v.tape = u.tape from World.grownBy.tape h, show v.output = u.output from World.grownBy.output h, by simpa using h.size, fun i hi hn => (Below.heap_setCell v p x i (by omega)).trans (World.grownBy.block h i hi hn)⟩
theorem ResAt.kp {w w' : World} {B b : Nat} (h : ResAt w B) (k : Kp b w w') (hb : B ≠ b) : ResAt w' B := by
  obtain ⟨h0, h1, h2, h3⟩ := h
  have e := k.block (Ext.lt (p := ⟨B, 0, none⟩) h0) hb
  exact ⟨(World.cell?_of_block (a := ⟨B, 0, none⟩) e).trans h0, (World.cell?_of_block (a := ⟨B, 1, none⟩) e).trans h1, (World.frozen?_of_block (a := ⟨B, 0, none⟩) e).trans h2, (World.frozen?_of_block (a := ⟨B, 1, none⟩) e).trans h3⟩
def xcU (s : Xc) (p : Int) : Bool := if chance p then decide (s.rr / 2048 * p.toNat ≤ s.dd) else false
def xcD (bs : List Nat) (s : Xc) (p : Int) : Xc := if chance p then parX bs s (s.rr / 2048 * p.toNat) else s
def XkPost (F : Nat → Prop) (w : World) (b : Nat) (bs : List Nat) (p : Int) (v : Bool) (s : Xc) (e : Ending) (w' : World) : Prop := ∃ c x, e = .returned (.tuple #[.bool v, .agg #[.int .i64 c, x]]) ∧ RErrIs w' (if chance p then none else some ([], 3)) c x ∧ XcAt F w' b bs s ∧ Kp b w w'

def nxN (bs : List Nat) : Nat → Xc
  | 0 => ⟨0, 0, 4294967295⟩
  | k + 1 => nexX bs (nxN bs k)
theorem nxN_ok (bs : List Nat) (k : Nat) : okX k (nxN bs k) := by
  induction k with
  | zero => exact ⟨Nat.le_refl _, Nat.zero_le _, (by show (4294967295 : Nat) < 4294967296; decide)⟩
  | succ k ih => exact nexX_ok ih
def NxcPost (w : World) (bs : List Nat) (e : Ending) (w' : World) : Prop := ∃ b, e = .returned (.pointer (some ⟨b, 0, none⟩)) ∧ w.heap.size ≤ b ∧ XcAt (fun g => g < w.heap.size ∨ w'.heap.size ≤ g) w' b bs (nxN bs 4) ∧ Ext w w'
end Go.Proofs.YtpofabebmeickaaDoor

/- The landed decoder and the document's, step by step: plain. -/
namespace Go.Proofs.YtpofabebmeickaaDoor
set_option linter.unusedVariables false
set_option linter.unusedSimpArgs false
open Go.RowKit Go.Extern.Stop Go.Stop Go.Extern

def lkI (t : Dc) (x : Xc) : Prop := t.pos = x.pos ∧ t.wid = x.rr ∧ (t.over = true → x.rr ≤ x.dd) ∧ (t.over = false → t.num = x.dd ∧ x.dd < x.rr)
theorem lk_step {bs : List Nat} (hb : ∀ x ∈ bs, x < 256) {t : Dc} {x : Xc} (h : lkI t x) (hw : t.wid < 16777216) : lkI (stpD bs t) (stpX bs x) := by
  obtain ⟨h1, h2, h3, h4⟩ := h
  have hx := getD_lt hb x.pos
  have e1 : (stpX bs x).dd = min (x.dd * 256 + bs.getD x.pos 0) 1099511627776 := rfl
  have e2 : (stpX bs x).rr = x.rr * 256 := rfl
  have e3 : (stpD bs t).num = t.num * 256 % 18446744073709551616 + bs.getD t.pos 0 := rfl
  refine ⟨by show t.pos + 1 = x.pos + 1; rw [h1], by show t.wid * 256 = x.rr * 256; rw [h2], fun ho => ?_, fun ho => ?_⟩
  · have := h3 ho
    rw [e1, e2]
    omega
  · obtain ⟨k1, k2⟩ := h4 ho
    rw [e1, e2, e3, h1]
    omega
theorem lk_mid {t : Dc} {x : Xc} (h : lkI t x) {w : Nat} (h1 : 1 ≤ w) (hw : w < t.wid) (hr : t.wid < 4294967296) : lkI (midD t w) (midX x w) ∧ upD t w = decide (w ≤ x.dd) := by
  obtain ⟨h1', h2, h3, h4⟩ := h
  have hu : upD t w = decide (w ≤ x.dd) := by
    unfold upD
    cases ho : t.over with
    | true =>
      have := h3 ho
      rw [decide_eq_true (by omega : w ≤ x.dd)]
      rfl
    | false =>
      rw [(h4 ho).1]
      rfl
  refine ⟨?_, hu⟩
  unfold midD midX
  rw [hu]
  by_cases hc : w ≤ x.dd
  · rw [decide_eq_true hc, if_pos rfl, if_pos hc]
    refine ⟨h1', by show t.wid - w = x.rr - w; rw [h2], fun ho => ?_, fun ho => ?_⟩
    · have := h3 ho
      show x.rr - w ≤ x.dd - w
      omega
    · obtain ⟨k1, k2⟩ := h4 ho
      refine ⟨?_, by show x.dd - w < x.rr - w; omega⟩
      show (t.num + (18446744073709551616 - w)) % 18446744073709551616 = x.dd - w
      rw [k1]
      omega
  · rw [decide_eq_false hc, if_neg (by simp), if_neg hc]
    refine ⟨h1', rfl, fun ho => ?_, fun ho => ?_⟩
    · have := h3 ho
      omega
    · exact ⟨(h4 ho).1, by show x.dd < w; omega⟩
theorem lk_nrm {bs : List Nat} (hb : ∀ x ∈ bs, x < 256) : ∀ (f : Nat) {t : Dc} {x : Xc}, lkI t x → lkI (nrmD bs f t) (nrmX bs f x)
  | 0, _, _, h => h
  | f + 1, t, x, h => by
    show lkI (if t.wid < 16777216 then nrmD bs f (stpD bs t) else t) (if x.rr < 16777216 then nrmX bs f (stpX bs x) else x)
    have e := h.2.1
    by_cases hw : t.wid < 16777216
    · rw [if_pos hw, if_pos (by rw [← e]; exact hw)]
      exact lk_nrm hb f (lk_step hb h hw)
    · rw [if_neg hw, if_neg (by rw [← e]; exact hw)]
      exact h
theorem lk_par {bs : List Nat} (hb : ∀ x ∈ bs, x < 256) {t : Dc} {x : Xc} (h : lkI t x) {w : Nat} (h1 : 1 ≤ w) (hw : w < t.wid) (hr : t.wid < 4294967296) : lkI (parD bs t w) (parX bs x w) ∧ upD t w = decide (w ≤ x.dd) := by
  obtain ⟨a, b⟩ := lk_mid h h1 hw hr
  exact ⟨lk_nrm hb 3 a, b⟩
theorem lk_new {bs : List Nat} (hb : ∀ x ∈ bs, x < 256) : lkI (newD bs) (nxN bs 4) := by
  have key : ∀ k, k ≤ 4 → (mvN bs k).pos = (nxN bs k).pos ∧ (mvN bs k).num = (nxN bs k).dd ∧ (nxN bs k).rr = 4294967295 := by
    intro k
    induction k with
    | zero => intro _; exact ⟨rfl, rfl, rfl⟩
    | succ k ih =>
      intro hk
      obtain ⟨i1, i2, i3⟩ := ih (by omega)
      obtain ⟨-, -, -, m4⟩ := mvN_is bs hb k (by omega)
      have m5 : (mvN bs k).num < 256 ^ 4 := Nat.lt_of_lt_of_le m4 (Nat.pow_le_pow_right (by decide) (by omega))
      have m5 : (mvN bs k).num < 4294967296 := m5
      have hx := getD_lt hb (mvN bs k).pos
      refine ⟨by show (mvN bs k).pos + 1 = (nxN bs k).pos + 1; rw [i1], ?_, i3⟩
      show (mvN bs k).num * 256 % 18446744073709551616 + bs.getD (mvN bs k).pos 0 = min ((nxN bs k).dd * 256 + bs.getD (nxN bs k).pos 0) 1099511627776
      rw [← i1, ← i2]
      omega
  obtain ⟨k1, k2, k3⟩ := key 4 (Nat.le_refl _)
  obtain ⟨m1, m2, m3, m4⟩ := mvN_is bs hb 4 (Nat.le_refl _)
  refine ⟨k1, by show (mvN bs 4).wid = _; rw [m3, k3], fun ho => ?_, fun ho => ?_⟩
  · have ho : decide (4294967295 ≤ (mvN bs 4).num) = true := ho
    rw [decide_eq_true_iff] at ho
    rw [k3, ← k2]
    exact ho
  · have ho : decide (4294967295 ≤ (mvN bs 4).num) = false := ho
    rw [decide_eq_false_iff_not] at ho
    exact ⟨k2, by rw [k3, ← k2]; omega⟩
theorem lk_flat {bs : List Nat} (hb : ∀ x ∈ bs, x < 256) {t : Dc} {x : Xc} (h : lkI t x) (hw : 16777216 ≤ t.wid) (hr : t.wid < 4294967296) : lkI (parD bs t (t.wid / 2)) (parX bs x (x.rr / 2)) ∧ upD t (t.wid / 2) = decide (x.rr / 2 ≤ x.dd) := by
  rw [← h.2.1]
  exact lk_par hb h (by omega) (by omega) hr
theorem lk_code {bs : List Nat} (hb : ∀ x ∈ bs, x < 256) {t : Dc} {x : Xc} (p : Int) (h : lkI t x) (hw : 16777216 ≤ t.wid) (hr : t.wid < 4294967296) : lkI (codD bs t p) (xcD bs x p) ∧ codU t p = xcU x p := by
  unfold codD xcD codU xcU
  by_cases hc : chance p = true
  · obtain ⟨c1, c2⟩ := chance_nat hc
    obtain ⟨a, b⟩ := part_of hw c1 c2
    rw [if_pos hc, if_pos hc, if_pos hc, if_pos hc, ← h.2.1]
    exact lk_par hb h a b hr
  · rw [if_neg hc, if_neg hc, if_neg hc, if_neg hc]
    exact ⟨h, rfl⟩
theorem xcD_ok {bs : List Nat} {N : Nat} {p : Int} {s : Xc} (hk : okX N s) (hw : 16777216 ≤ s.rr) : okX (N + 3) (xcD bs s p) := by
  unfold xcD
  split
  · rename_i hc
    obtain ⟨c1, c2⟩ := chance_nat hc
    exact parX_ok hk (part_of hw c1 c2).2
  · exact hk.mono (by omega)
theorem xor_b (x : Int) : ∃ y : Nat, y < 256 ∧ bits .xor .u8 x 255 = (y : Int) := by
  obtain ⟨z, hz⟩ : ∃ z, bits .xor .u8 x 255 = IntKind.u8.wrap z := ⟨_, rfl⟩
  rw [hz, IntKind.wrap_u8]
  exact ⟨(z % 256).toNat, by omega, by omega⟩
/-- bytes that may be written -/
def CsN (w : World) (B1 B2 : Nat) (a : Option Addr) (n : Nat) : Prop := 0 < n → ∃ g, a = some ⟨g, 0, none⟩ ∧ (B1 ≤ g ∧ g < B2) ∧ ∀ j, j < n → (∃ x : Nat, w.cell? ⟨g, j, none⟩ = some (.int .u8 (x : Int))) ∧ w.frozen? ⟨g, j, none⟩ = false
theorem CsN.of {w : World} {base n cap : Nat} {a : Option Addr} {bs : List Nat} (h : w.ownsRow base 5 1 (.slice a n cap) n (byC bs)) (hl : bs.length = n) : CsN w base w.heap.size a n := fun hn => by
  obtain ⟨-, h' | ⟨g, cap', cur, e', hb', hg, h1, h2, hs, ht⟩⟩ := id h
  · omega
  · simp only [Value.slice.injEq] at e'
    obtain ⟨rfl, -, rfl⟩ := e'
    refine ⟨g, rfl, ⟨hb', (Array.getElem?_eq_some_iff.1 hg).1⟩, fun j hj => ⟨⟨bs.getD j 0, ?_⟩, by simp [World.frozen?, hg]⟩⟩
    have : (byC bs)[j]? = some (.int .u8 ((bs.getD j 0 : Nat) : Int)) := by
      unfold byC
      rw [List.getElem?_map, nget_of_lt (by omega)]
      rfl
    rw [← ht, List.getElem?_take] at this
    split at this
    · simp [World.cell?, hg]
      simpa using this
    · cases this
theorem CsN.ext {w w' : World} {B1 B2 n : Nat} {a : Option Addr} (h : CsN w B1 B2 a n) (k : Ext w w') : CsN w' B1 B2 a n := fun h0 => by
  obtain ⟨g, e, hg, hj⟩ := h h0
  refine ⟨g, e, hg, fun j h1 => ?_⟩
  obtain ⟨⟨x, c⟩, f⟩ := hj j h1
  exact ⟨⟨x, k.cell c⟩, (Below.frozen k (Ext.lt c)).trans f⟩
theorem CsN.set {w : World} {B1 B2 g n i y : Nat} (h : CsN w B1 B2 (some ⟨g, 0, none⟩) n) : CsN (w.setCell ⟨g, i, none⟩ (.int .u8 (y : Int))) B1 B2 (some ⟨g, 0, none⟩) n := fun h0 => by
  obtain ⟨g', e, hg, hj⟩ := h h0
  simp only [Option.some.injEq, Addr.mk.injEq, and_true] at e
  subst e
  refine ⟨g, rfl, hg, fun j h1 => ?_⟩
  obtain ⟨⟨x, c⟩, f⟩ := hj j h1
  refine ⟨?_, by simpa using f⟩
  by_cases hij : i = j
  · subst hij
    exact ⟨y, World.cell?_setCell_same _ _ _ c⟩
  · exact ⟨x, (cell_off_ne _ hij).trans c⟩
end Go.Proofs.YtpofabebmeickaaDoor
