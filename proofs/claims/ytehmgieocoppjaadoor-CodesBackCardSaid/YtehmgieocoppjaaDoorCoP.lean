/- kinlaw3.puts: its contract. -/
import Derived.Test.YtehmgieocoppjaaDoorCo6
import Derived.Test.YtehmgieocoppjaaDoorCo7
import Derived.Test.YtehmgieocoppjaaDoorCoG
import Derived.Test.YtehmgieocoppjaaDoorBl6
import Derived.Deep.RegionLaw
namespace Go.Proofs.YtehmgieocoppjaaDoor
set_option linter.unusedVariables false
set_option linter.unusedSimpArgs false
open Go.RowKit Go.Extern.Stop Go.Stop Go.Extern

/-- what putting an operation answers; the bits then -/
def ptF (kd vv kk : Int) : Fall := if kd = 0 then cuF vv else if kd = 1 then csF vv else if kd = 2 then crF vv kk else wpF vv kk
def ptL (l : List Bool) (kd vv kk : Int) : List Bool := if kd = 0 then cuL l vv else if kd = 1 then csL l vv else if kd = 2 then crL l vv kk else wpL l vv kk
/-- an answer of no path -/
def flatF (f : Fall) : Prop := f = none ∨ f = range
theorem ErrIs.flat {w w' : World} {f : Fall} {x : Value} (h : ErrIs w f x) (hf : flatF f) : ErrIs w' f x := by
  rcases hf with rfl | rfl
  · exact h
  · exact h
theorem RErrIs.flat {w w' : World} {f : Fall} {c : Int} {u : Value} (h : RErrIs w f c u) (hf : flatF f) : RErrIs w' f c u := by
  rcases hf with rfl | rfl
  · exact h
  · obtain ⟨a, b, x, y, e, h1, h2, h3, h4⟩ := h
    exact ⟨a, b, x, y, e, h1, h2, h3, fun g off ha j u hu => by simp [stepCells] at hu⟩
theorem ptF_flat (kd vv kk : Int) : flatF (ptF kd vv kk) := by
  unfold ptF flatF cuF csF crF wpF
  split
  · split <;> simp
  · split
    · split <;> simp
    · split
      · split <;> simp
      · split <;> simp
theorem ptL_len {l : List Bool} {kd vv kk : Int} : (ptL l kd vv kk).length ≤ l.length + 61 := by
  unfold ptL
  split
  · unfold cuL
    split
    · rename_i h; have := szUe_yes h; rw [List.length_append]; omega
    · omega
  · split
    · unfold csL
      split
      · rename_i h; have := szUe_yes (fold_ok h); rw [List.length_append]; omega
      · omega
    · split
      · unfold crL
        split
        · rename_i h; have := szRi_yes h; rw [List.length_append]; omega
        · omega
      · have := wpL_len (l := l) (v := vv) (n := kk); omega
def PtPost (w0 : World) (b x B : Nat) (l : List Bool) (e : Ending) (w' : World) : Prop := e = .returned (.bool true) ∧ WrAt w' b B l ∧ XwAt w' x B l ∧ Ext w0 w'
theorem Oc4.wkp {w w' : World} {g b B : Nat} {kd vv kk mm : Int} (h : Oc4 w g kd vv kk mm) (k : WKp b B w w') (hg : ∃ cs fr, w.heap[g]? = some (.cells cs 50 fr) ∧ g ≠ b) : Oc4 w' g kd vv kk mm := by
  obtain ⟨cs, fr, hc, hb⟩ := hg
  have e := k.2.2 g (Array.getElem?_eq_some_iff.1 hc).1 hb (.inr (fun ⟨cs', fr', e⟩ => by
    rw [hc] at e
    simp only [Option.some.injEq, Obj.cells.injEq] at e
    exact absurd e.2.1 (by decide)))
  exact ⟨(World.cell?_of_block (a := ⟨g, 0, none⟩) e).trans h.1, (World.cell?_of_block (a := ⟨g, 1, none⟩) e).trans h.2.1, (World.cell?_of_block (a := ⟨g, 2, none⟩) e).trans h.2.2.1, (World.cell?_of_block (a := ⟨g, 3, none⟩) e).trans h.2.2.2⟩
theorem Oc4.xkp {w w' : World} {g b B : Nat} {kd vv kk mm : Int} (h : Oc4 w g kd vv kk mm) (k : XKp b B w w') (hg : ∃ cs fr, w.heap[g]? = some (.cells cs 50 fr) ∧ g ≠ b) : Oc4 w' g kd vv kk mm := by
  obtain ⟨cs, fr, hc, hb⟩ := hg
  have e := k.2.2 g (Array.getElem?_eq_some_iff.1 hc).1 hb (.inr (fun ⟨cs', fr', e⟩ => by
    rw [hc] at e
    simp only [Option.some.injEq, Obj.cells.injEq] at e
    exact absurd e.2.1 (by decide)))
  exact ⟨(World.cell?_of_block (a := ⟨g, 0, none⟩) e).trans h.1, (World.cell?_of_block (a := ⟨g, 1, none⟩) e).trans h.2.1, (World.cell?_of_block (a := ⟨g, 2, none⟩) e).trans h.2.2.1, (World.cell?_of_block (a := ⟨g, 3, none⟩) e).trans h.2.2.2⟩
set_option maxHeartbeats 8000000 in
set_option maxRecDepth 20000 in
theorem puts_ue (b x B : Nat) (vv kk mm : Int) (l : List Bool) (w0 w : World) (hg : EtIs w0) (HE : Ext w0 w) (hwb : w0.heap.size ≤ b) (hwx : w0.heap.size ≤ x) (hwB : w0.heap.size ≤ B) (hbx : b ≠ x) (hbB : b < B) (hxB : x < B)
    (HW : WrAt w b B l) (HX : XwAt w x B l) (hl : l.length ≤ 700000) :
    Calls Tryd.prog 25 #[.pointer (some ⟨b, 0, none⟩), .pointer (some ⟨x, 0, none⟩), .agg #[.int .i64 0, .int .i64 vv, .int .i64 kk, .int .i64 mm]] w (PtPost w0 b x B (cuL l vv)) := by
  have A1 : Ext w (w.alloc (.cells #[.int .i64 0, .int .i64 vv, .int .i64 kk, .int .i64 mm] 50)) := (Ext.refl w).alloc _
  have HO0 : Hid (Oc4 (w.alloc (.cells #[.int .i64 0, .int .i64 vv, .int .i64 kk, .int .i64 mm] 50)) w.heap.size 0 vv kk mm) := ⟨by simp, by simp, by simp, by simp⟩
  have HW0 := Lib.hid (HW.ext A1)
  have HX0 := Lib.hid (HX.ext A1)
  have HE0 := Lib.hid (HE.trans A1)
  have hbw : b < w.heap.size := by obtain ⟨v, h1, -⟩ := HW; exact Ext.lt (p := ⟨b, 0, none⟩) h1.1.1
  have hxw : x < w.heap.size := HX.lt
  have hxb : x ≠ b := by omega
  have hob : ∃ cs fr, ((w.alloc (.cells #[.int .i64 0, .int .i64 vv, .int .i64 kk, .int .i64 mm] 50)).drew).heap[w.heap.size]? = some (.cells cs 50 fr) ∧ w.heap.size ≠ b := ⟨_, _, heap_alloc_new w _, by omega⟩
  have hox : ∃ cs fr, ((w.alloc (.cells #[.int .i64 0, .int .i64 vv, .int .i64 kk, .int .i64 mm] 50)).drew).heap[w.heap.size]? = some (.cells cs 50 fr) ∧ w.heap.size ≠ x := ⟨_, _, heap_alloc_new w _, by omega⟩
  have HF0 : flatF (cuF vv) := by have := ptF_flat 0 vv kk; exact this
  have UW := Lib.hid (fun w' (h : WrAt w' b B l) => putue_any b B vv l w' h (by omega))
  have UX := Lib.hid (fun w' (h : XwAt w' x B l) => rputue_any x B vv l w' h (by omega))
  obtain ⟨F, hF⟩ : ∃ F, cuF vv = F := ⟨_, rfl⟩
  obtain ⟨l2, hl2⟩ : ∃ l2, cuL l vv = l2 := ⟨_, rfl⟩
  rw [hF, hl2] at UW UX
  rw [hF] at HF0
  rw [hl2]
  have HF := Lib.hid HF0
  clear hF hl2 HF0 A1 HW HX HE hl
  have HED := Lib.hid HE0.out.drew
  have HWD := Lib.hid (HW0.out.ext (Ext.refl _).drew)
  have HXD := Lib.hid (HX0.out.ext (Ext.refl _).drew)
  have HOD := Lib.hid (HO0.out.ext (Ext.refl _).drew)
  obtain ⟨d0, d1, d2, d3⟩ := HOD.out
  obtain ⟨p0, p1, p2, p3⟩ := HO0.out
  go_enter Tryd.func25, Tryd.ntmps25
  go_wp2_with fail
  go_region_law (first
    | (go_simp; go_at_call 36; (first
        | ((with_reducible refine (UW.out _ HWD.out).mono ?_); rintro e w5 ⟨x5, rfl, p5, k5, e5⟩; have HW5 := Lib.hid p5; have HX5 := Lib.hid (HXD.out.wkp k5 hxb hbB); have HE5 := Lib.hid (WKp.out HED.out k5 hwb hwB); have HR5 := Lib.hid e5; have HO5 := Lib.hid (Oc4.wkp HOD.out k5 hob); obtain ⟨d0, d1, d2, d3⟩ := HO5.out; clear p5 k5 e5)
        | (refine (UW.out _ HW5.out).mono ?_; rintro e w6 ⟨x5, rfl, p5, k5, e5⟩; have HW6 := Lib.hid p5; have HX6 := Lib.hid (HX5.out.wkp k5 hxb hbB); have HE6 := Lib.hid (WKp.out HE5.out k5 hwb hwB); have HR5 := Lib.hid e5; clear p5 k5 e5)))
    | (go_simp; go_at_call 51; (first
        | ((with_reducible refine (UX.out _ HXD.out).mono ?_); rintro e w5 ⟨ce, u5, rfl, p5, k5, e5⟩; have HX5 := Lib.hid p5; have HW5 := Lib.hid (HWD.out.xkp k5 hbx hxB); have HE5 := Lib.hid (XKp.out HED.out k5 hwx hwB); have HS5 := Lib.hid e5; have HO5 := Lib.hid (Oc4.xkp HOD.out k5 hox); obtain ⟨d0, d1, d2, d3⟩ := HO5.out; clear p5 k5 e5)
        | (refine (UX.out _ HX5.out).mono ?_; rintro e w6 ⟨ce, u5, rfl, p5, k5, e5⟩; have HX6 := Lib.hid p5; have HW6 := Lib.hid (HW5.out.xkp k5 hbx hxB); have HE6 := Lib.hid (XKp.out HE5.out k5 hwx hwB); have HS5 := Lib.hid e5; clear p5 k5 e5)))
    | (go_simp; go_at_call 14; refine (same_fall F _ _ _ _ (hg.ext HE6.out) (HR5.out.flat HF.out) (HS5.out.flat HF.out)).mono ?_; rintro e w7 ⟨rfl, hx7⟩; have HW7 := Lib.hid (HW6.out.ext hx7); have HX7 := Lib.hid (HX6.out.ext hx7); have HE7 := Lib.hid (HE6.out.trans hx7)))
  all_goals go_wp2
  all_goals go_ret
  all_goals exact ⟨rfl, HW7.out, HX7.out, HE7.out⟩
set_option maxHeartbeats 8000000 in
set_option maxRecDepth 20000 in
theorem puts_se (b x B : Nat) (vv kk mm : Int) (l : List Bool) (w0 w : World) (hg : EtIs w0) (HE : Ext w0 w) (hwb : w0.heap.size ≤ b) (hwx : w0.heap.size ≤ x) (hwB : w0.heap.size ≤ B) (hbx : b ≠ x) (hbB : b < B) (hxB : x < B)
    (HW : WrAt w b B l) (HX : XwAt w x B l) (hl : l.length ≤ 700000) :
    Calls Tryd.prog 25 #[.pointer (some ⟨b, 0, none⟩), .pointer (some ⟨x, 0, none⟩), .agg #[.int .i64 1, .int .i64 vv, .int .i64 kk, .int .i64 mm]] w (PtPost w0 b x B (csL l vv)) := by
  have A1 : Ext w (w.alloc (.cells #[.int .i64 1, .int .i64 vv, .int .i64 kk, .int .i64 mm] 50)) := (Ext.refl w).alloc _
  have HO0 : Hid (Oc4 (w.alloc (.cells #[.int .i64 1, .int .i64 vv, .int .i64 kk, .int .i64 mm] 50)) w.heap.size 1 vv kk mm) := ⟨by simp, by simp, by simp, by simp⟩
  have HW0 := Lib.hid (HW.ext A1)
  have HX0 := Lib.hid (HX.ext A1)
  have HE0 := Lib.hid (HE.trans A1)
  have hbw : b < w.heap.size := by obtain ⟨v, h1, -⟩ := HW; exact Ext.lt (p := ⟨b, 0, none⟩) h1.1.1
  have hxw : x < w.heap.size := HX.lt
  have hxb : x ≠ b := by omega
  have hob : ∃ cs fr, ((w.alloc (.cells #[.int .i64 1, .int .i64 vv, .int .i64 kk, .int .i64 mm] 50)).drew).heap[w.heap.size]? = some (.cells cs 50 fr) ∧ w.heap.size ≠ b := ⟨_, _, heap_alloc_new w _, by omega⟩
  have hox : ∃ cs fr, ((w.alloc (.cells #[.int .i64 1, .int .i64 vv, .int .i64 kk, .int .i64 mm] 50)).drew).heap[w.heap.size]? = some (.cells cs 50 fr) ∧ w.heap.size ≠ x := ⟨_, _, heap_alloc_new w _, by omega⟩
  have HF0 : flatF (csF vv) := by have := ptF_flat 1 vv kk; exact this
  have UW := Lib.hid (fun w' (h : WrAt w' b B l) => putse_any b B vv l w' h (by omega))
  have UX := Lib.hid (fun w' (h : XwAt w' x B l) => rputse_any x B vv l w' h (by omega))
  obtain ⟨F, hF⟩ : ∃ F, csF vv = F := ⟨_, rfl⟩
  obtain ⟨l2, hl2⟩ : ∃ l2, csL l vv = l2 := ⟨_, rfl⟩
  rw [hF, hl2] at UW UX
  rw [hF] at HF0
  rw [hl2]
  have HF := Lib.hid HF0
  clear hF hl2 HF0 A1 HW HX HE hl
  have HED := Lib.hid HE0.out.drew
  have HWD := Lib.hid (HW0.out.ext (Ext.refl _).drew)
  have HXD := Lib.hid (HX0.out.ext (Ext.refl _).drew)
  have HOD := Lib.hid (HO0.out.ext (Ext.refl _).drew)
  obtain ⟨d0, d1, d2, d3⟩ := HOD.out
  obtain ⟨p0, p1, p2, p3⟩ := HO0.out
  go_enter Tryd.func25, Tryd.ntmps25
  go_wp2_with fail
  go_region_law (first
    | (go_simp; go_at_call 37; (first
        | ((with_reducible refine (UW.out _ HWD.out).mono ?_); rintro e w5 ⟨x5, rfl, p5, k5, e5⟩; have HW5 := Lib.hid p5; have HX5 := Lib.hid (HXD.out.wkp k5 hxb hbB); have HE5 := Lib.hid (WKp.out HED.out k5 hwb hwB); have HR5 := Lib.hid e5; have HO5 := Lib.hid (Oc4.wkp HOD.out k5 hob); obtain ⟨d0, d1, d2, d3⟩ := HO5.out; clear p5 k5 e5)
        | (refine (UW.out _ HW5.out).mono ?_; rintro e w6 ⟨x5, rfl, p5, k5, e5⟩; have HW6 := Lib.hid p5; have HX6 := Lib.hid (HX5.out.wkp k5 hxb hbB); have HE6 := Lib.hid (WKp.out HE5.out k5 hwb hwB); have HR5 := Lib.hid e5; clear p5 k5 e5)))
    | (go_simp; go_at_call 52; (first
        | ((with_reducible refine (UX.out _ HXD.out).mono ?_); rintro e w5 ⟨ce, u5, rfl, p5, k5, e5⟩; have HX5 := Lib.hid p5; have HW5 := Lib.hid (HWD.out.xkp k5 hbx hxB); have HE5 := Lib.hid (XKp.out HED.out k5 hwx hwB); have HS5 := Lib.hid e5; have HO5 := Lib.hid (Oc4.xkp HOD.out k5 hox); obtain ⟨d0, d1, d2, d3⟩ := HO5.out; clear p5 k5 e5)
        | (refine (UX.out _ HX5.out).mono ?_; rintro e w6 ⟨ce, u5, rfl, p5, k5, e5⟩; have HX6 := Lib.hid p5; have HW6 := Lib.hid (HW5.out.xkp k5 hbx hxB); have HE6 := Lib.hid (XKp.out HE5.out k5 hwx hwB); have HS5 := Lib.hid e5; clear p5 k5 e5)))
    | (go_simp; go_at_call 14; refine (same_fall F _ _ _ _ (hg.ext HE6.out) (HR5.out.flat HF.out) (HS5.out.flat HF.out)).mono ?_; rintro e w7 ⟨rfl, hx7⟩; have HW7 := Lib.hid (HW6.out.ext hx7); have HX7 := Lib.hid (HX6.out.ext hx7); have HE7 := Lib.hid (HE6.out.trans hx7)))
  all_goals go_wp2
  all_goals go_ret
  all_goals exact ⟨rfl, HW7.out, HX7.out, HE7.out⟩
set_option maxHeartbeats 8000000 in
set_option maxRecDepth 20000 in
theorem puts_ri (b x B : Nat) (vv kk mm : Int) (l : List Bool) (w0 w : World) (hg : EtIs w0) (HE : Ext w0 w) (hwb : w0.heap.size ≤ b) (hwx : w0.heap.size ≤ x) (hwB : w0.heap.size ≤ B) (hbx : b ≠ x) (hbB : b < B) (hxB : x < B)
    (HW : WrAt w b B l) (HX : XwAt w x B l) (hl : l.length ≤ 700000) :
    Calls Tryd.prog 25 #[.pointer (some ⟨b, 0, none⟩), .pointer (some ⟨x, 0, none⟩), .agg #[.int .i64 2, .int .i64 vv, .int .i64 kk, .int .i64 mm]] w (PtPost w0 b x B (crL l vv kk)) := by
  have A1 : Ext w (w.alloc (.cells #[.int .i64 2, .int .i64 vv, .int .i64 kk, .int .i64 mm] 50)) := (Ext.refl w).alloc _
  have HO0 : Hid (Oc4 (w.alloc (.cells #[.int .i64 2, .int .i64 vv, .int .i64 kk, .int .i64 mm] 50)) w.heap.size 2 vv kk mm) := ⟨by simp, by simp, by simp, by simp⟩
  have HW0 := Lib.hid (HW.ext A1)
  have HX0 := Lib.hid (HX.ext A1)
  have HE0 := Lib.hid (HE.trans A1)
  have hbw : b < w.heap.size := by obtain ⟨v, h1, -⟩ := HW; exact Ext.lt (p := ⟨b, 0, none⟩) h1.1.1
  have hxw : x < w.heap.size := HX.lt
  have hxb : x ≠ b := by omega
  have hob : ∃ cs fr, ((w.alloc (.cells #[.int .i64 2, .int .i64 vv, .int .i64 kk, .int .i64 mm] 50)).drew).heap[w.heap.size]? = some (.cells cs 50 fr) ∧ w.heap.size ≠ b := ⟨_, _, heap_alloc_new w _, by omega⟩
  have hox : ∃ cs fr, ((w.alloc (.cells #[.int .i64 2, .int .i64 vv, .int .i64 kk, .int .i64 mm] 50)).drew).heap[w.heap.size]? = some (.cells cs 50 fr) ∧ w.heap.size ≠ x := ⟨_, _, heap_alloc_new w _, by omega⟩
  have HF0 : flatF (crF vv kk) := by have := ptF_flat 2 vv kk; exact this
  have UW := Lib.hid (fun w' (h : WrAt w' b B l) => putri_any b B vv kk l w' h (by omega))
  have UX := Lib.hid (fun w' (h : XwAt w' x B l) => rputri_any x B vv kk l w' h (by omega))
  obtain ⟨F, hF⟩ : ∃ F, crF vv kk = F := ⟨_, rfl⟩
  obtain ⟨l2, hl2⟩ : ∃ l2, crL l vv kk = l2 := ⟨_, rfl⟩
  rw [hF, hl2] at UW UX
  rw [hF] at HF0
  rw [hl2]
  have HF := Lib.hid HF0
  clear hF hl2 HF0 A1 HW HX HE hl
  have HED := Lib.hid HE0.out.drew
  have HWD := Lib.hid (HW0.out.ext (Ext.refl _).drew)
  have HXD := Lib.hid (HX0.out.ext (Ext.refl _).drew)
  have HOD := Lib.hid (HO0.out.ext (Ext.refl _).drew)
  obtain ⟨d0, d1, d2, d3⟩ := HOD.out
  obtain ⟨p0, p1, p2, p3⟩ := HO0.out
  go_enter Tryd.func25, Tryd.ntmps25
  go_wp2_with fail
  go_region_law (first
    | (go_simp; go_at_call 38; (first
        | ((with_reducible refine (UW.out _ HWD.out).mono ?_); rintro e w5 ⟨x5, rfl, p5, k5, e5⟩; have HW5 := Lib.hid p5; have HX5 := Lib.hid (HXD.out.wkp k5 hxb hbB); have HE5 := Lib.hid (WKp.out HED.out k5 hwb hwB); have HR5 := Lib.hid e5; have HO5 := Lib.hid (Oc4.wkp HOD.out k5 hob); obtain ⟨d0, d1, d2, d3⟩ := HO5.out; clear p5 k5 e5)
        | (refine (UW.out _ HW5.out).mono ?_; rintro e w6 ⟨x5, rfl, p5, k5, e5⟩; have HW6 := Lib.hid p5; have HX6 := Lib.hid (HX5.out.wkp k5 hxb hbB); have HE6 := Lib.hid (WKp.out HE5.out k5 hwb hwB); have HR5 := Lib.hid e5; clear p5 k5 e5)))
    | (go_simp; go_at_call 53; (first
        | ((with_reducible refine (UX.out _ HXD.out).mono ?_); rintro e w5 ⟨ce, u5, rfl, p5, k5, e5⟩; have HX5 := Lib.hid p5; have HW5 := Lib.hid (HWD.out.xkp k5 hbx hxB); have HE5 := Lib.hid (XKp.out HED.out k5 hwx hwB); have HS5 := Lib.hid e5; have HO5 := Lib.hid (Oc4.xkp HOD.out k5 hox); obtain ⟨d0, d1, d2, d3⟩ := HO5.out; clear p5 k5 e5)
        | (refine (UX.out _ HX5.out).mono ?_; rintro e w6 ⟨ce, u5, rfl, p5, k5, e5⟩; have HX6 := Lib.hid p5; have HW6 := Lib.hid (HW5.out.xkp k5 hbx hxB); have HE6 := Lib.hid (XKp.out HE5.out k5 hwx hwB); have HS5 := Lib.hid e5; clear p5 k5 e5)))
    | (go_simp; go_at_call 14; refine (same_fall F _ _ _ _ (hg.ext HE6.out) (HR5.out.flat HF.out) (HS5.out.flat HF.out)).mono ?_; rintro e w7 ⟨rfl, hx7⟩; have HW7 := Lib.hid (HW6.out.ext hx7); have HX7 := Lib.hid (HX6.out.ext hx7); have HE7 := Lib.hid (HE6.out.trans hx7)))
  all_goals go_wp2
  all_goals go_ret
  all_goals exact ⟨rfl, HW7.out, HX7.out, HE7.out⟩
set_option maxHeartbeats 8000000 in
set_option maxRecDepth 20000 in
theorem puts_bits (b x B : Nat) (kd vv kk mm : Int) (l : List Bool) (w0 w : World) (n0 : ¬ kd = 0) (n1 : ¬ kd = 1) (n2 : ¬ kd = 2) (hg : EtIs w0) (HE : Ext w0 w) (hwb : w0.heap.size ≤ b) (hwx : w0.heap.size ≤ x) (hwB : w0.heap.size ≤ B) (hbx : b ≠ x) (hbB : b < B) (hxB : x < B)
    (HW : WrAt w b B l) (HX : XwAt w x B l) (hl : l.length ≤ 700000) :
    Calls Tryd.prog 25 #[.pointer (some ⟨b, 0, none⟩), .pointer (some ⟨x, 0, none⟩), .agg #[.int .i64 kd, .int .i64 vv, .int .i64 kk, .int .i64 mm]] w (PtPost w0 b x B (wpL l vv kk)) := by
  have A1 : Ext w (w.alloc (.cells #[.int .i64 kd, .int .i64 vv, .int .i64 kk, .int .i64 mm] 50)) := (Ext.refl w).alloc _
  have HO0 : Hid (Oc4 (w.alloc (.cells #[.int .i64 kd, .int .i64 vv, .int .i64 kk, .int .i64 mm] 50)) w.heap.size kd vv kk mm) := ⟨by simp, by simp, by simp, by simp⟩
  have HW0 := Lib.hid (HW.ext A1)
  have HX0 := Lib.hid (HX.ext A1)
  have HE0 := Lib.hid (HE.trans A1)
  have hbw : b < w.heap.size := by obtain ⟨v, h1, -⟩ := HW; exact Ext.lt (p := ⟨b, 0, none⟩) h1.1.1
  have hxw : x < w.heap.size := HX.lt
  have hxb : x ≠ b := by omega
  have hob : ∃ cs fr, ((w.alloc (.cells #[.int .i64 kd, .int .i64 vv, .int .i64 kk, .int .i64 mm] 50)).drew).heap[w.heap.size]? = some (.cells cs 50 fr) ∧ w.heap.size ≠ b := ⟨_, _, heap_alloc_new w _, by omega⟩
  have hox : ∃ cs fr, ((w.alloc (.cells #[.int .i64 kd, .int .i64 vv, .int .i64 kk, .int .i64 mm] 50)).drew).heap[w.heap.size]? = some (.cells cs 50 fr) ∧ w.heap.size ≠ x := ⟨_, _, heap_alloc_new w _, by omega⟩
  have HF0 : flatF (wpF vv kk) := by have := ptF_flat kd vv kk; unfold ptF at this; rwa [if_neg n0, if_neg n1, if_neg n2] at this
  have UW := Lib.hid (fun w' (h : WrAt w' b B l) => wput_any b B vv kk l w' h (by omega))
  have UX := Lib.hid (fun w' (h : XwAt w' x B l) => xwput_any x B vv kk l w' h (by omega))
  obtain ⟨F, hF⟩ : ∃ F, wpF vv kk = F := ⟨_, rfl⟩
  obtain ⟨l2, hl2⟩ : ∃ l2, wpL l vv kk = l2 := ⟨_, rfl⟩
  rw [hF, hl2] at UW UX
  rw [hF] at HF0
  rw [hl2]
  have HF := Lib.hid HF0
  clear hF hl2 HF0 A1 HW HX HE hl
  have HED := Lib.hid HE0.out.drew
  have HWD := Lib.hid (HW0.out.ext (Ext.refl _).drew)
  have HXD := Lib.hid (HX0.out.ext (Ext.refl _).drew)
  have HOD := Lib.hid (HO0.out.ext (Ext.refl _).drew)
  obtain ⟨d0, d1, d2, d3⟩ := HOD.out
  obtain ⟨p0, p1, p2, p3⟩ := HO0.out
  go_enter Tryd.func25, Tryd.ntmps25
  go_wp2_with fail
  go_region_law (first
    | (go_simp; go_at_call 15; (first
        | ((with_reducible refine (UW.out _ HWD.out).mono ?_); rintro e w5 ⟨x5, rfl, p5, k5, e5⟩; have HW5 := Lib.hid p5; have HX5 := Lib.hid (HXD.out.wkp k5 hxb hbB); have HE5 := Lib.hid (WKp.out HED.out k5 hwb hwB); have HR5 := Lib.hid e5; have HO5 := Lib.hid (Oc4.wkp HOD.out k5 hob); obtain ⟨d0, d1, d2, d3⟩ := HO5.out; clear p5 k5 e5)
        | (refine (UW.out _ HW5.out).mono ?_; rintro e w6 ⟨x5, rfl, p5, k5, e5⟩; have HW6 := Lib.hid p5; have HX6 := Lib.hid (HX5.out.wkp k5 hxb hbB); have HE6 := Lib.hid (WKp.out HE5.out k5 hwb hwB); have HR5 := Lib.hid e5; clear p5 k5 e5)))
    | (go_simp; go_at_call 16; (first
        | ((with_reducible refine (UX.out _ HXD.out).mono ?_); rintro e w5 ⟨ce, u5, rfl, p5, k5, e5⟩; have HX5 := Lib.hid p5; have HW5 := Lib.hid (HWD.out.xkp k5 hbx hxB); have HE5 := Lib.hid (XKp.out HED.out k5 hwx hwB); have HS5 := Lib.hid e5; have HO5 := Lib.hid (Oc4.xkp HOD.out k5 hox); obtain ⟨d0, d1, d2, d3⟩ := HO5.out; clear p5 k5 e5)
        | (refine (UX.out _ HX5.out).mono ?_; rintro e w6 ⟨ce, u5, rfl, p5, k5, e5⟩; have HX6 := Lib.hid p5; have HW6 := Lib.hid (HW5.out.xkp k5 hbx hxB); have HE6 := Lib.hid (XKp.out HE5.out k5 hwx hwB); have HS5 := Lib.hid e5; clear p5 k5 e5)))
    | (go_simp; go_at_call 14; refine (same_fall F _ _ _ _ (hg.ext HE6.out) (HR5.out.flat HF.out) (HS5.out.flat HF.out)).mono ?_; rintro e w7 ⟨rfl, hx7⟩; have HW7 := Lib.hid (HW6.out.ext hx7); have HX7 := Lib.hid (HX6.out.ext hx7); have HE7 := Lib.hid (HE6.out.trans hx7)))
  all_goals go_wp2
  all_goals go_ret
  all_goals exact ⟨rfl, HW7.out, HX7.out, HE7.out⟩
theorem puts_any (b x B : Nat) (kd vv kk mm : Int) (l : List Bool) (w0 w : World) (hg : EtIs w0) (HE : Ext w0 w) (hwb : w0.heap.size ≤ b) (hwx : w0.heap.size ≤ x) (hwB : w0.heap.size ≤ B) (hbx : b ≠ x) (hbB : b < B) (hxB : x < B)
    (HW : WrAt w b B l) (HX : XwAt w x B l) (hl : l.length ≤ 700000) :
    Calls Tryd.prog 25 #[.pointer (some ⟨b, 0, none⟩), .pointer (some ⟨x, 0, none⟩), .agg #[.int .i64 kd, .int .i64 vv, .int .i64 kk, .int .i64 mm]] w (PtPost w0 b x B (ptL l kd vv kk)) := by
  by_cases h0 : kd = 0
  · subst h0
    exact puts_ue b x B vv kk mm l w0 w hg HE hwb hwx hwB hbx hbB hxB HW HX hl
  · by_cases h1 : kd = 1
    · subst h1
      exact puts_se b x B vv kk mm l w0 w hg HE hwb hwx hwB hbx hbB hxB HW HX hl
    · by_cases h2 : kd = 2
      · subst h2
        exact puts_ri b x B vv kk mm l w0 w hg HE hwb hwx hwB hbx hbB hxB HW HX hl
      · have e : ptL l kd vv kk = wpL l vv kk := by unfold ptL; rw [if_neg h0, if_neg h1, if_neg h2]
        rw [e]
        exact puts_bits b x B kd vv kk mm l w0 w h0 h1 h2 hg HE hwb hwx hwB hbx hbB hxB HW HX hl
end Go.Proofs.YtehmgieocoppjaaDoor
