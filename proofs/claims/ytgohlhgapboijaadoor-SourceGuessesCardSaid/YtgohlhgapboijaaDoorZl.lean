/- Contracts of this seat: Su7, Su8, Su9. -/
import Derived.Test.YtgohlhgapboijaaDoorZk
import Derived.Test.YtgohlhgapboijaaDoorZh
import Derived.Deep.RegionLaw
import Derived.Test.YtgohlhgapboijaaDoorZd
import Derived.Test.YtgohlhgapboijaaDoorZg
import Derived.Lib.SlBytesConst
/- source.Decode of nil and of a head alone. -/
namespace Go.Proofs.YtgohlhgapboijaaDoor
set_option linter.unusedVariables false
set_option linter.unusedSimpArgs false
open Go.RowKit Go.Extern.Stop Go.Stop Go.Extern

def sourceS : ByteArray := ⟨#[115, 111, 117, 114, 99, 101]⟩
/-- source.Decode of nil -/
theorem dec_nil (w : World) : Calls Tryd.prog 33 #[.slice none 0 0] w fun e w' => ∃ x, e = .returned (.tuple #[.slice none 0 0, x]) ∧ Ext w w' ∧ IsErr w' [(sourceS, -1)] 1 x := by
  have U : Hid (∀ W, Calls Tryd.prog 56 #[.slice none 0 0] W fun e w' => e = .returned (.int .i64 1) ∧ W = w') := fun W => by
    go_enter Tryd.func56, Tryd.ntmps56
    go_wp2
    go_ret
    exact ⟨rfl, rfl⟩
  have UI : Hid (∀ W, Calls Tryd.prog 25 #[.string sourceS, .int .i64 (-1), .iface 23 (.int .i64 1)] W fun e w' => ∃ u, e = .returned u ∧ Ext W w' ∧ IsErr w' [(sourceS, -1)] 1 u) := fun W => in_err sourceS (-1) [] 1 _ W rfl
  go_enter Tryd.func33, Tryd.ntmps33
  go_wp2_with fail
  refine (U.out _).mono ?_; rintro e w1 ⟨rfl, rfl⟩
  go_wp2_with fail
  refine (UI.out _).mono ?_; rintro e w2 ⟨u, rfl, x2, h2⟩
  go_wp2
  go_ret2
  exact ⟨_, rfl, x2, h2⟩
theorem Kp.fresh15 {b : Nat} {u v : World} (h : Kp b u v) {R : Nat} (hR : u.heap.size ≤ R) (o : Nat) (x : Value) : Kp b u (v.setCell ⟨R, o, none⟩ x) := by
  obtain ⟨h1, h2, h3, h4, h5⟩ := h
  exact ⟨h1, h2, h3, Nat.le_trans h4 (by simp), fun i hi hn => (Below.heap_setCell v ⟨R, o, none⟩ x i (show i ≠ R by omega)).trans (h5 i hi hn)⟩
theorem IsErr.kpi15 {w w' : World} {b : Nat} {i : Int} (k : Kp b w w') (hb : w.cell? ⟨b, 0, none⟩ = some (.int .i64 i)) : ∀ {p : List (ByteArray × Int)} {c : Int} {v : Value}, IsErr w p c v → IsErr w' p c v
  | [], _, _, hv => hv
  | (_, _) :: _, _, _, ⟨g, u, hv, h0, h1, h2, hu⟩ => by
    have hg : g ≠ b := fun e => by subst e; rw [hb] at h0; cases h0
    exact ⟨g, u, hv, k.cell h0 hg, k.cell h1 hg, k.cell h2 hg, IsErr.kpi15 k hb hu⟩
/-- a frame that ends at once -/
theorem rframe_end {F : Nat → Prop} (b p : Nat) (bs : List Nat) (w : World) (h : RdAt F w b bs p) (hp : p ≤ 8 * bs.length) (he : 8 * bs.length < p + 3) :
    Calls Tryd.prog 58 #[.pointer (some ⟨b, 0, none⟩), .int .i64 8, .int .i64 8] w fun e w' => ∃ x, e = .returned (.tuple #[.agg #[.int .i64 0, .int .i64 0, .slice none 0 0], x]) ∧ Kp b w w' ∧ ErrIs w' (some ([(bitsS, (p : Int))], 1)) x := by
  have U := Lib.hid (fun (W : World) (x : Ext w W) => get_end b p 3 bs W (h.ext x) hp (by decide) he)
  have E1 := Lib.hid ((Ext.refl w).alloc (.cells #[.int .i64 0, .int .i64 0, .slice none 0 0] 54))
  have hbw : b < w.heap.size := by
    obtain ⟨a, cap, hbox, -⟩ := h
    exact Ext.lt (p := ⟨b, 0, none⟩) hbox.1
  have HBL := Lib.hid (heap_alloc_new w (.cells #[.int .i64 0, .int .i64 0, .slice none 0 0] 54))
  have hsz : (w.alloc (.cells #[.int .i64 0, .int .i64 0, .slice none 0 0] 54)).heap.size = w.heap.size + 1 := by simp
  have HSZ := Lib.hid hsz
  clear h hp he hsz
  go_enter Tryd.func58, Tryd.ntmps58
  go_wp2_with fail
  have e3 : (Value.int .i64 3) = .int .i64 ((3 : Nat) : Int) := rfl
  refine (U.out _ E1.out).mono ?_; rintro e w2 ⟨x, rfl, hk, hr, he⟩
  have hbk := hk.block (k := w.heap.size) (by rw [HSZ.out]; exact Nat.lt_succ_self _) (by omega)
  rw [HBL.out] at hbk
  have q0 : w2.cell? ⟨w.heap.size, 0, none⟩ = some (.int .i64 0) := by rw [Lib.cell_of_heap hbk]; rfl
  have q1 : w2.cell? ⟨w.heap.size, 1, none⟩ = some (.int .i64 0) := by rw [Lib.cell_of_heap hbk]; rfl
  have q2 : w2.cell? ⟨w.heap.size, 2, none⟩ = some (.slice none 0 0) := by rw [Lib.cell_of_heap hbk]; rfl
  have f0 : w2.frozen? ⟨w.heap.size, 0, none⟩ = false := Lib.frozen_of_heap hbk 0
  have f1 : w2.frozen? ⟨w.heap.size, 1, none⟩ = false := Lib.frozen_of_heap hbk 1
  have f2 : w2.frozen? ⟨w.heap.size, 2, none⟩ = false := Lib.frozen_of_heap hbk 2
  obtain ⟨tx, vx, rfl⟩ := ErrIs.ne he
  have HKR := Lib.hid ((Kp.of_ext (b := b) E1.out).trans hk)
  have HQ0 := Lib.hid q0
  have HE := Lib.hid he
  have hsw : w.heap.size ≤ w2.heap.size := HKR.out.size
  clear hk hr he hbk
  go_wp2
  have y2 : (((w2.setCell ⟨w.heap.size, 0, none⟩ (.int .i64 0)).setCell ⟨w.heap.size, 1, none⟩ (.int .i64 0)).setCell ⟨w.heap.size, 2, none⟩ (.slice none 0 0)).cell? ⟨w.heap.size, 2, none⟩ = some (.slice none 0 0) :=
    World.cell?_setCell_same _ _ _ (by rw [cell_off_ne _ (by decide), cell_off_ne _ (by decide)]; exact q2)
  have y1 : (((w2.setCell ⟨w.heap.size, 0, none⟩ (.int .i64 0)).setCell ⟨w.heap.size, 1, none⟩ (.int .i64 0)).setCell ⟨w.heap.size, 2, none⟩ (.slice none 0 0)).cell? ⟨w.heap.size, 1, none⟩ = some (.int .i64 0) := by
    rw [cell_off_ne _ (by decide)]
    exact World.cell?_setCell_same _ _ _ (by rw [cell_off_ne _ (by decide)]; exact q1)
  have y0 : (((w2.setCell ⟨w.heap.size, 0, none⟩ (.int .i64 0)).setCell ⟨w.heap.size, 1, none⟩ (.int .i64 0)).setCell ⟨w.heap.size, 2, none⟩ (.slice none 0 0)).cell? ⟨w.heap.size, 0, none⟩ = some (.int .i64 0) := by
    rw [cell_off_ne _ (by decide), cell_off_ne _ (by decide)]
    exact World.cell?_setCell_same _ _ _ q0
  exact bodyPost_ret (v := .tuple #[.agg #[.int .i64 0, .int .i64 0, .slice none 0 0], .iface tx vx]) (by simp [results, Tryd.results58, go_sem, y0, y1, y2]) rfl
    ⟨_, rfl, ((HKR.out.fresh15 (Nat.le_refl _) 0 _).fresh15 (Nat.le_refl _) 1 _).fresh15 (Nat.le_refl _) 2 _, IsErr.kpi15 ((((Kp.refl w.heap.size w2).set 0 _).set 1 _).set 2 _) HQ0.out HE.out.1, HE.out.2⟩
set_option maxHeartbeats 8000000 in
set_option maxRecDepth 100000 in
/-- a head alone -/
theorem dec_head (g : Nat) (fr : Nat × Nat) (w : World) (h : w.heap[g]? = some (.cells #[.int .u8 75, .int .u8 83, .int .u8 1, .int .u8 1, .int .u8 1] 5 fr)) :
    Calls Tryd.prog 33 #[.slice (some ⟨g, 0, none⟩) 5 5] w fun e w' => ∃ x, e = .returned (.tuple #[.slice none 0 0, x]) ∧ Ext w w' ∧ IsErr w' [(sourceS, 0), (bitsS, 0)] 1 x := by
  have c0 : w.cell? ⟨g, 0, none⟩ = some (.int .u8 75) := by rw [Lib.cell_of_heap h]; rfl
  have c1 : w.cell? ⟨g, 1, none⟩ = some (.int .u8 83) := by rw [Lib.cell_of_heap h]; rfl
  have c2 : w.cell? ⟨g, 2, none⟩ = some (.int .u8 1) := by rw [Lib.cell_of_heap h]; rfl
  have c3 : w.cell? ⟨g, 3, none⟩ = some (.int .u8 1) := by rw [Lib.cell_of_heap h]; rfl
  have c4 : w.cell? ⟨g, 4, none⟩ = some (.int .u8 1) := by rw [Lib.cell_of_heap h]; rfl
  have U : Hid (∀ W, Ext w W → Calls Tryd.prog 56 #[.slice (some ⟨g, 0, none⟩) 5 5] W fun e w' => e = .returned (.int .i64 0) ∧ W = w') := fun W x => by
    have d0 := x.cell c0
    have d1 := x.cell c1
    have d2 := x.cell c2
    have d3 := x.cell c3
    have d4 := x.cell c4
    clear c0 c1 c2 c3 c4
    go_enter Tryd.func56, Tryd.ntmps56
    go_wp2
    go_ret
    exact ⟨rfl, rfl⟩
  go_enter Tryd.func33, Tryd.ntmps33
  go_wp2_with fail
  refine (U.out _ (Ext.refl w)).mono ?_; rintro e w1 ⟨rfl, rfl⟩
  have hby : Bys w (.slice (some ⟨g, 0, none⟩) 0 0) [] := ⟨⟨some ⟨g, 0, none⟩, 0, rfl, Nat.le_refl _, Nat.zero_le _, fun h => absurd h (Nat.lt_irrefl _), fun _ _ _ j u hj => by simp at hj⟩, by simp, by simp⟩
  go_wp2_with fail
  refine (newrd_any [] _ _ hby).mono ?_; rintro e w3 ⟨b, rfl, hb, hr, x3⟩
  have RF := Lib.hid (fun (W : World) (x : Ext w3 W) => rframe_end b 0 [] W (hr.ext x) (by simp) (by simp))
  have HX3 := Lib.hid x3
  have hb3 : b < w3.heap.size := by
    obtain ⟨a, cap, hbox, -⟩ := hr
    exact Ext.lt (p := ⟨b, 0, none⟩) hbox.1
  have d2 := x3.cell c2
  have d3 := x3.cell c3
  have d4 := x3.cell c4
  clear hr x3 hby U h c0 c1
  go_wp2_with fail
  refine wp_loop_rounds 1 ?_
  rw [rounds_succ]
  go_wp2_with fail
  have RB := Lib.hid (RF.out (w3.alloc (.cells #[.int .i64 0, .int .i64 0, .slice none 0 0] 54)).drew ((Ext.refl w3).alloc _).drew)
  have RA := Lib.hid (RF.out w3.drew (Ext.refl w3).drew)
  have BLK : Hid ((w3.alloc (.cells #[.int .i64 0, .int .i64 0, .slice none 0 0] 54)).drew.heap[w3.heap.size]? = some (.cells #[.int .i64 0, .int .i64 0, .slice none 0 0] 54 (0, 0))) := heap_alloc_new w3 _
  have BSZ : Hid (w3.heap.size < (w3.alloc (.cells #[.int .i64 0, .int .i64 0, .slice none 0 0] 54)).drew.heap.size) := by show _ < _; simp
  have BEX : Hid (∀ {p w' : _} (x5 : Value), Kp b (w3.alloc (.cells #[.int .i64 0, .int .i64 0, .slice none 0 0] 54)).drew w' → p = w3.heap.size →
      (w'.cell? ⟨p, 0, none⟩ = some (.int .i64 0) ∧ w'.cell? ⟨p, 1, none⟩ = some (.int .i64 0) ∧ w'.cell? ⟨p, 2, none⟩ = some (.slice none 0 0)) ∧ w'.frozen? ⟨p, 0, none⟩ = false ∧ w'.frozen? ⟨p, 1, none⟩ = false ∧ w'.frozen? ⟨p, 2, none⟩ = false) := by
    intro p w' x5 hk e
    subst e
    have hbk := hk.block BSZ.out (by omega)
    rw [BLK.out] at hbk
    exact ⟨⟨by rw [Lib.cell_of_heap hbk]; rfl, by rw [Lib.cell_of_heap hbk]; rfl, by rw [Lib.cell_of_heap hbk]; rfl⟩, Lib.frozen_of_heap hbk 0, Lib.frozen_of_heap hbk 1, Lib.frozen_of_heap hbk 2⟩
  have d2' := ((Ext.refl w3).alloc (.cells #[.int .i64 0, .int .i64 0, .slice none 0 0] 54)).cell d2
  have d3' := ((Ext.refl w3).alloc (.cells #[.int .i64 0, .int .i64 0, .slice none 0 0] 54)).cell d3
  go_region_law (go_simp; go_at_call 58; (first | (refine RB.out.mono ?_; rintro e w5 ⟨x5, rfl, hk5, he5⟩; obtain ⟨⟨q0, q1, q2⟩, f0, f1, f2⟩ := BEX.out x5 hk5 rfl) | (refine RA.out.mono ?_; rintro e w5 ⟨x5, rfl, hk5, he5⟩)))
  all_goals obtain ⟨tx, vx, rfl⟩ := ErrIs.ne he5
  all_goals first
    | (have hex := Kp.out HX3.out.drew hk5 hb; have HI := Lib.hid (he5.1.ext ((Ext.refl w5).alloc (.cells #[.int .i64 0, .int .i64 0, .slice none 0 0] 54))); have HEx := Lib.hid (hex.alloc (.cells #[.int .i64 0, .int .i64 0, .slice none 0 0] 54)))
    | (have hex := Kp.out (HX3.out.alloc (.cells #[.int .i64 0, .int .i64 0, .slice none 0 0] 54)).drew hk5 hb; have HI := Lib.hid (IsErr.kpi15 ((((Kp.refl w3.heap.size w5).set 0 (.int .i64 0)).set 1 (.int .i64 0)).set 2 (.slice none 0 0)) q0 he5.1); have HEx := Lib.hid (((hex.setCell (p := ⟨w3.heap.size, 0, none⟩) HX3.out.size (.int .i64 0)).setCell (p := ⟨w3.heap.size, 1, none⟩) HX3.out.size (.int .i64 0)).setCell (p := ⟨w3.heap.size, 2, none⟩) HX3.out.size (.slice none 0 0)))
  all_goals clear he5 hk5 hex RA RB BEX BLK BSZ RF
  all_goals go_wp2_with fail
  all_goals (refine (in_err sourceS 0 _ 1 _ _ HI.out).mono ?_; rintro e w6 ⟨u, rfl, x6, h6⟩)
  all_goals go_wp2
  all_goals go_ret2
  all_goals exact ⟨_, rfl, HEx.out.trans x6, h6⟩
end Go.Proofs.YtgohlhgapboijaaDoor

/- kinlaw15.first. -/
namespace Go.Proofs.YtgohlhgapboijaaDoor
set_option linter.unusedVariables false
set_option linter.unusedSimpArgs false
open Go.RowKit Go.Extern.Stop Go.Stop Go.Extern

def greyL : List Int := List.replicate 64 128
def greyV : List Fr := [(8, 8, greyL)]
theorem grey_ck : ckF greyV = none := by
  have hm : may 8 8 greyL := by decide +kernel
  unfold ckF
  rw [if_neg (by decide), if_neg, if_neg, if_neg (by decide)]
  · intro h
    apply h
    intro q hq
    have : q = 0 := by have : greyV.length = 1 := rfl; omega
    subst this
    exact ⟨rfl, rfl⟩
  · intro h
    apply h
    intro q hq
    have : q = 0 := by have : greyV.length = 1 := rfl; omega
    subst this
    exact hm
theorem grey_bytes : enBytes greyV = [75, 83, 1, 1, 1, 0, 0, 0, 0, 0, 0, 0, 0, 0] := by decide +kernel
theorem grey_str : strOf [75, 83, 1, 1, 1, 0, 0, 0, 0, 0, 0, 0, 0, 0] = { data := #[75, 83, 1, 1, 1, 0, 0, 0, 0, 0, 0, 0, 0, 0] } := by rfl
theorem grey_small : Small greyV := ⟨by decide, fun q => by
  unfold frAt greyV
  cases q with
  | zero => decide
  | succ q => simp [fr0]⟩
theorem text_head : pathT [(sourceS, 0), (bitsS, 0)] ++ codeT 1 = [115, 111, 117, 114, 99, 101, 32, 48, 58, 32, 98, 105, 116, 115, 32, 48, 58, 32, 99, 111, 100, 101, 32, 49] := by
  have h0 : Lib.decDigits 0 = [48] := by rw [Lib.decDigits, dif_pos (by omega)]; rfl
  have h1 : Lib.decDigits 1 = [49] := by rw [Lib.decDigits, dif_pos (by omega)]; rfl
  have e0 : Lib.itoa 0 = [48] := h0
  have e1 : codeT 1 = [99, 111, 100, 101, 32] ++ Lib.decDigits 1 := rfl
  rw [e1, h1]
  simp only [pathT, stepT, e0]
  rfl
theorem text_none : pathT [(sourceS, -1)] ++ codeT 1 = [115, 111, 117, 114, 99, 101, 32, 45, 49, 58, 32, 99, 111, 100, 101, 32, 49] := by
  have h1 : Lib.decDigits 1 = [49] := by rw [Lib.decDigits, dif_pos (by omega)]; rfl
  have e0 : Lib.itoa (-1) = [45, 49] := by unfold Lib.itoa; rw [if_pos (by decide)]; exact congrArg (45 :: ·) h1
  have e1 : codeT 1 = [99, 111, 100, 101, 32] ++ Lib.decDigits 1 := rfl
  rw [e1, h1]
  simp only [pathT, stepT, e0]
  rfl
theorem str_of_data {s : ByteArray} {l : List UInt8} (h : s.data.toList = l) : s = ⟨l.toArray⟩ := by
  obtain ⟨⟨m⟩⟩ := s
  have h : m = l := h
  rw [h]
theorem conv_bb (w : World) (C : Array Value) (n c : Nat) : (convert 59 59 (.slice (some ⟨w.heap.size, 0, none⟩) n c)).run Tryd.prog (w.alloc (.cells C 5)) = .ok (.slice (some ⟨w.heap.size, 0, none⟩) n c) (w.alloc (.cells C 5 (C.size, C.size + 1))) :=
  Lib.run_convert_bytes_const w 59 5 C n c Tryd.underlying59 Tryd.underlying5
end Go.Proofs.YtgohlhgapboijaaDoor

/- kinlaw15.SourceGuesses: the walk. -/
namespace Go.Proofs.YtgohlhgapboijaaDoor
set_option linter.unusedVariables false
set_option linter.unusedSimpArgs false
open Go.RowKit Go.Extern.Stop Go.Stop Go.Extern

end Go.Proofs.YtgohlhgapboijaaDoor
