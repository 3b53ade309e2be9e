/- gop: a chunk that is being parsed. -/
import Derived.Test.YtlaedbglclmheaaGreatDoorOb3
import Derived.Test.YtlaedbglclmheaaGreatDoorZg
import Derived.Test.YtlaedbglclmheaaGreatDoorGp1
import Derived.Deep.RegionLaw
import Derived.BigRegion
namespace Go.Proofs.YtlaedbglclmheaaGreatDoor
set_option linter.unusedVariables false
set_option linter.unusedSimpArgs false
open Go.RowKit Go.Extern.Stop Go.Stop Go.Extern

/-- a chunk of the call's own, as far as it is parsed, and what else holds -/
def GkU (p : Nat) (w0 w : World) (s : GS) (Q : World → Prop) : Prop := ∃ (cv : Value) (Z : List (Cd × Value)) (P : World → Prop), Uno (Sep (Sep (RwF 61 2) (BoF p 26)) HoF) w0 w (((cv, Z.length, cgC Z), #[.int .i64 s.1.1, .int .i64 s.1.2.1, .int .i64 s.1.2.2, cv]), P) ∧ Z.map Prod.fst = s.2 ∧ ∀ W, P W → (∀ z ∈ Z, Bys W z.2 z.1.2 ∧ Plain z.2) ∧ Q W
abbrev gkO (p : Nat) := (RwF.obj 61 2).sep (BoF.obj p 26)
theorem GkU.ext {p : Nat} {w0 w w' : World} {s : GS} {Q : World → Prop} (h : GkU p w0 w s Q) (k : Ext w w') : GkU p w0 w' s Q := by
  obtain ⟨cv, Z, P, h1, h2, h3⟩ := h
  exact ⟨cv, Z, P, bag_ext (gkO p) h1 k, h2, h3⟩
theorem GkU.imp {p : Nat} {w0 w : World} {s : GS} {Q R : World → Prop} (h : GkU p w0 w s Q) (k : ∀ W, Q W → R W) : GkU p w0 w s R := by
  obtain ⟨cv, Z, P, h1, h2, h3⟩ := h
  exact ⟨cv, Z, P, h1, h2, fun W hW => ⟨(h3 W hW).1, k W (h3 W hW).2⟩⟩
theorem GkU.add {p : Nat} {w0 w w' : World} {s : GS} {Q R : World → Prop} {X : Nat → Prop} (h : GkU p w0 w s Q) (k : Ext w w') (hq : HoF w' X R) (hx : ∀ i, X i → w.heap.size ≤ i) : GkU p w0 w' s (fun W => Q W ∧ R W) := by
  obtain ⟨cv, Z, P, h1, h2, h3⟩ := h
  exact ⟨cv, Z, _, bag_add (gkO p) h1 k hq hx, h2, fun W hW => ⟨(h3 W hW.1).1, (h3 W hW.1).2, hW.2⟩⟩
theorem GkU.held {p : Nat} {w0 w : World} {s : GS} {Q : World → Prop} (h : GkU p w0 w s Q) : Q w := by
  obtain ⟨cv, Z, P, h1, h2, h3⟩ := h
  exact (h3 w h1.held).2
theorem GkU.out {p : Nat} {w0 w : World} {s : GS} {Q : World → Prop} (h : GkU p w0 w s Q) : Ext w0 w := by
  obtain ⟨cv, Z, P, h1, -⟩ := h
  exact Uno.out h1
theorem GkU.box {p : Nat} {w0 w : World} {s : GS} {Q : World → Prop} (h : GkU p w0 w s Q) : ∃ cv, BoxIs w p #[.int .i64 s.1.1, .int .i64 s.1.2.1, .int .i64 s.1.2.2, cv] 26 ∧ ∃ a n c, cv = .slice a n c ∧ n = s.2.length := by
  obtain ⟨cv, Z, P, h1, h2, -⟩ := h
  have h9 := Uno.assoc h1
  refine ⟨cv, bo_box h9, ?_⟩
  have h8 := rw_own (Uno.assoc (bag_swap h1))
  obtain ⟨a, c, e⟩ := (Row.of_owns h8).form
  exact ⟨a, _, c, e, by rw [← h2, List.length_map]⟩
/-- a box cell that is written -/
theorem GkU.head {p : Nat} {w0 w : World} {s : GS} {Q : World → Prop} (h : GkU p w0 w s Q) (x y z : Int) : GkU p w0 (((w.setCell ⟨p, 0, none⟩ (.int .i64 x)).setCell ⟨p, 1, none⟩ (.int .i64 y)).setCell ⟨p, 2, none⟩ (.int .i64 z)) ((x, y, z), s.2) Q := by
  obtain ⟨cv, Z, P, h1, h2, h3⟩ := h
  have h9 := Uno.assoc h1
  have h8 := bo_set ((RwF.obj 61 2).sep HoF.obj) (bo_set ((RwF.obj 61 2).sep HoF.obj) (bo_set ((RwF.obj 61 2).sep HoF.obj) h9 0 (.int .i64 x)) 1 (.int .i64 y)) 2 (.int .i64 z)
  exact ⟨cv, Z, P, Uno.assoc h8, h2, h3⟩
def codeF (c : Int) : Fall := if c = 0 then none else some ([], c)
theorem codeF_of {c : Int} (h : c ≠ 0) : codeF c = some ([], c) := if_neg h
def GtP (p : Nat) (w0 : World) (r : Int × GS) (Q : World → Prop) (e : Ending) (w' : World) : Prop := ∃ x, e = .returned x ∧ ErrIs w' (codeF r.1) x ∧ GkU p w0 w' r.2 Q
set_option maxRecDepth 20000 in
set_option maxHeartbeats 4000000 in
theorem gth_any (p : Nat) (w0 w : World) (s : GS) (Q : World → Prop) (k : Nat) (u : Value) (D : List Nat) (at' en : Int) (h : GkU p w0 w s Q) (hq : ∀ W, Q W → Bys W u D) :
    Calls Tryz.prog 102 #[.pointer (some ⟨p, 0, none⟩), .agg #[.int .i64 (k : Int), u, .int .i64 at', .int .i64 en]] w (GtP p w0 (gtk 0 s (k, D, at', en)) Q) := by
  obtain ⟨a, cap, rfl⟩ := (hq _ h.held).form
  obtain ⟨n, hn⟩ : ∃ n, n = D.length := ⟨_, rfl⟩
  have HN := Lib.hid hn
  have X1 := (Ext.refl w).alloc (.cells #[.int .i64 (k : Int), .slice a D.length cap, .int .i64 at', .int .i64 en] 158)
  have HU := Lib.hid (h.ext X1)
  have hpw : p < w.heap.size := by obtain ⟨_, hB, -⟩ := h.box; exact hB.lt
  have HB := Lib.hid ((hq _ h.held).ext X1)
  rw [← hn] at HU HB ⊢
  clear h X1 hn
  by_cases hk : k = 32
  · by_cases hl : n = 3
    · subst hl
      have hk' : (k : Int) = 32 := by omega
      rw [hk'] at HU HB ⊢
      obtain ⟨d0, d1, d2, rfl⟩ : ∃ d0 d1 d2, D = [d0, d1, d2] := by
        match D, HN.out with
        | [x, y, z], _ => exact ⟨x, y, z, rfl⟩
      obtain ⟨g, off, rfl⟩ := HB.out.had (by decide)
      have c0 := HB.out.at (j := 0) (x := d0) rfl
      have c1 := HB.out.at (j := 1) (x := d1) rfl
      have c2 := HB.out.at (j := 2) (x := d2) rfl
      have l0 := HB.out.2.1 d0 (by simp)
      have l1 := HB.out.2.1 d1 (by simp)
      have l2 := HB.out.2.1 d2 (by simp)
      rw [Nat.add_zero] at c0
      have m0 : IntKind.i64.wrap (d0 : Int) = (d0 : Int) := by rw [IntKind.wrap_i64]; omega
      have m1 : IntKind.i64.wrap (d1 : Int) = (d1 : Int) := by rw [IntKind.wrap_i64]; omega
      have m2 : IntKind.i64.wrap (d2 : Int) = (d2 : Int) := by rw [IntKind.wrap_i64]; omega
      go_enter Tryz.func102, Tryz.ntmps102
      have X2 := (Ext.refl (w.alloc (.cells #[.int .i64 32, .slice (some ⟨g, off, none⟩) 3 cap, .int .i64 at', .int .i64 en] 158))).alloc (.cells #[.int .i64 0, .int .i64 0] 23)
      have c0' := X2.cell c0
      have c1' := X2.cell c1
      have c2' := X2.cell c2
      clear X2
      have HR0 : Hid (gtk 0 s (k, [d0, d1, d2], at', en) = if grpB (d0 : Int) (d1 : Int) (d2 : Int) then ((0 : Int), ((((d0 : Int), (d1 : Int), (d2 : Int)), s.2) : GS)) else (2, s)) := by
        show _ = _
        unfold gtk
        rw [if_pos rfl, if_neg (by rintro (h | h); exact h hk; exact h rfl)]
        rfl
      have X3 := ((Ext.refl (w.alloc (.cells #[.int .i64 32, .slice (some ⟨g, off, none⟩) 3 cap, .int .i64 at', .int .i64 en] 158))).alloc (.cells #[.int .i64 (d1 : Int), .int .i64 (d2 : Int)] 23)).drew
      have HU3 := Lib.hid (HU.out.ext X3)
      have B3 : BoxIs ((w.alloc (.cells #[.int .i64 32, .slice (some ⟨g, off, none⟩) 3 cap, .int .i64 at', .int .i64 en] 158)).alloc (.cells #[.int .i64 (d1 : Int), .int .i64 (d2 : Int)] 23)).drew (w.heap.size + 1) #[.int .i64 (d1 : Int), .int .i64 (d2 : Int)] 23 := by
        have h := BoxIs.new (w.alloc (.cells #[.int .i64 32, .slice (some ⟨g, off, none⟩) 3 cap, .int .i64 at', .int .i64 en] 158)) #[.int .i64 (d1 : Int), .int .i64 (d2 : Int)] 23
        rw [show (w.alloc (.cells #[.int .i64 32, .slice (some ⟨g, off, none⟩) 3 cap, .int .i64 at', .int .i64 en] 158)).heap.size = w.heap.size + 1 by simp] at h
        exact h.ext (Ext.refl _).drew
      go_wp2_with fail
      go_region
      obtain ⟨w2, hw2⟩ : ∃ z, ((w.alloc (.cells #[.int .i64 32, .slice (some ⟨g, off, none⟩) 3 cap, .int .i64 at', .int .i64 en] 158)).alloc (.cells #[.int .i64 (d1 : Int), .int .i64 (d2 : Int)] 23)).drew = z := ⟨_, rfl⟩
      rw [hw2] at HU3 B3 X3 ⊢
      have b0 := B3.cell (i := 0) (v := .int .i64 (d1 : Int)) rfl
      have b1 := B3.cell (i := 1) (v := .int .i64 (d2 : Int)) rfl
      have HB3 := Lib.hid B3
      clear hw2 X3 c0 c1 c2 c0' c1' c2' l0 l1 l2 m0 m1 m2 hq HB HU B3 hk hk'
      go_wp2_with fail
      refine (grp_any _ _ _ _).mono ?_; rintro e w4 ⟨rfl, hx4⟩
      have HU4 := Lib.hid (HU3.out.ext hx4)
      have B4 := HB3.out.ext hx4
      have e0 := B4.cell (i := 0) (v := .int .i64 (d1 : Int)) rfl
      have e1 := B4.cell (i := 1) (v := .int .i64 (d2 : Int)) rfl
      clear HB3 b0 b1 HU3 hx4 B4
      cases hg : grpB (d0 : Int) (d1 : Int) (d2 : Int) with
      | false =>
        have HR : Hid (gtk 0 s (k, [d0, d1, d2], at', en) = (2, s)) := by show _ = _; rw [HR0.out, hg]; rfl
        clear HR0
        go_wp2
        go_ret
        exact ⟨_, rfl, by rw [HR.out]; exact ErrIs.code (c := 2) (by decide), by rw [HR.out]; exact HU4.out⟩
      | true =>
        have HR : Hid (gtk 0 s (k, [d0, d1, d2], at', en) = (0, (((d0 : Int), (d1 : Int), (d2 : Int)), s.2))) := by show _ = _; rw [HR0.out, hg]; rfl
        clear HR0
        obtain ⟨cv, B5, -⟩ := HU4.out.box
        have p0 := B5.cell (i := 0) (v := .int .i64 s.1.1) rfl
        have p1 := B5.cell (i := 1) (v := .int .i64 s.1.2.1) rfl
        have p2 := B5.cell (i := 2) (v := .int .i64 s.1.2.2) rfl
        have f0 := B5.free (i := 0)
        have f1 := B5.free (i := 1)
        have f2 := B5.free (i := 2)
        have e0' := (World.cell?_setCell_other w4 ⟨p, 0, none⟩ ⟨w.heap.size + 1, 0, none⟩ (.int .i64 (d0 : Int)) (by intro e; have h9 : p = w.heap.size + 1 := congrArg Addr.block e; omega)).trans e0
        have e1' := (World.cell?_setCell_other w4 ⟨p, 0, none⟩ ⟨w.heap.size + 1, 1, none⟩ (.int .i64 (d0 : Int)) (by intro e; have h9 : p = w.heap.size + 1 := congrArg Addr.block e; omega)).trans e1
        have h5 := HU4.out.head (d0 : Int) (d1 : Int) (d2 : Int)
        have HU5 := Lib.hid (h5.ext (Ext.refl _).drew)
        clear h5 B5
        go_wp2_with fail
        go_region
        go_wp2
        go_ret
        exact ⟨_, rfl, by rw [HR.out]; exact rfl, by rw [HR.out]; exact HU5.out⟩
    · have HR : Hid (gtk 0 s (k, D, at', en) = (2, s)) := by show _ = _; unfold gtk; rw [if_pos rfl, if_pos (.inr (by rw [← HN.out]; exact hl))]
      have t1 : (n : Int) ≠ 3 := by omega
      have t2 : ((n : Int) != 3) = true := by rw [bne_iff_ne]; exact t1
      have hk' : (k : Int) = 32 := by omega
      rw [hk'] at HU HB ⊢
      clear hl t1 hk hk'
      go_enter Tryz.func102, Tryz.ntmps102
      go_wp2
      go_ret
      exact ⟨_, rfl, by rw [HR.out]; exact ErrIs.code (c := 2) (by decide), by rw [HR.out]; exact HU.out⟩
  · have HR : Hid (gtk 0 s (k, D, at', en) = (2, s)) := by show _ = _; unfold gtk; rw [if_pos rfl, if_pos (.inl hk)]
    have t2 : ((k : Int) != 32) = true := by rw [bne_iff_ne]; omega
    clear hk
    go_enter Tryz.func102, Tryz.ntmps102
    go_wp2
    go_ret
    exact ⟨_, rfl, by rw [HR.out]; exact ErrIs.code (c := 2) (by decide), by rw [HR.out]; exact HU.out⟩
end Go.Proofs.YtlaedbglclmheaaGreatDoor
