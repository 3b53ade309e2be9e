/- Contracts of this seat: Su7, Su8, Su9. -/
import Derived.Test.YtgohlhgapboijaaGreatDoorZk
import Derived.Test.YtgohlhgapboijaaGreatDoorZh
import Derived.Deep.RegionLaw
import Derived.Test.YtgohlhgapboijaaGreatDoorZd
import Derived.Test.YtgohlhgapboijaaGreatDoorZg
import Derived.Lib.SlBytesConst
/- source.Decode of nil and of a head alone. -/
namespace Go.Proofs.YtgohlhgapboijaaGreatDoor
set_option linter.unusedVariables false
set_option linter.unusedSimpArgs false
open Go.RowKit Go.Extern.Stop Go.Stop Go.Extern

def sourceS : ByteArray := ⟨#[115, 111, 117, 114, 99, 101]⟩
/-- source.Decode of nil -/
theorem dec_nil (w : World) : Calls Tryz.prog 14 #[.slice none 0 0] w fun e w' => ∃ x, e = .returned (.tuple #[.slice none 0 0, x]) ∧ Ext w w' ∧ IsErr w' [(sourceS, -1)] 1 x := by
  have U : Hid (∀ W, Calls Tryz.prog 33 #[.slice none 0 0] W fun e w' => e = .returned (.int .i64 1) ∧ W = w') := fun W => by
    go_enter Tryz.func33, Tryz.ntmps33
    go_wp2
    go_ret
    exact ⟨rfl, rfl⟩
  have UI : Hid (∀ W, Calls Tryz.prog 34 #[.string sourceS, .int .i64 (-1), .iface 31 (.int .i64 1)] W fun e w' => ∃ u, e = .returned u ∧ Ext W w' ∧ IsErr w' [(sourceS, -1)] 1 u) := fun W => in_err sourceS (-1) [] 1 _ W rfl
  go_enter Tryz.func14, Tryz.ntmps14
  go_wp2_with fail
  refine (U.out _).mono ?_; rintro e w1 ⟨rfl, rfl⟩
  go_wp2_with fail
  refine (UI.out _).mono ?_; rintro e w2 ⟨u, rfl, x2, h2⟩
  go_wp2
  go_ret2
  exact ⟨_, rfl, x2, h2⟩
theorem Kp.fresh15 {b : Nat} {u v : World} (h : Kp b u v) {R : Nat} (hR : u.heap.size ≤ R) (o : Nat) (x : Value) : Kp b u (v.setCell ⟨R, o, none⟩ x) := by
  obtain ⟨h1, h2, h3, h4, h5⟩ := h
  exact ⟨h1, h2, h3, Nat.le_trans h4 (by simp), fun i hi hn => (Below.heap_setCell v ⟨R, o, none⟩ x i (show i ≠ R by omega)).trans (h5 i hi hn)⟩
theorem IsErr.kpi15 {w w' : World} {b : Nat} {i : Int} (k : Kp b w w') (hb : w.cell? ⟨b, 0, none⟩ = some (.int .i64 i)) : ∀ {p : List (ByteArray × Int)} {c : Int} {v : Value}, IsErr w p c v → IsErr w' p c v
  | [], _, _, hv => hv
  | (_, _) :: _, _, _, ⟨g, u, hv, h0, h1, h2, hu⟩ => by
    have hg : g ≠ b := fun e => by subst e; rw [hb] at h0; cases h0
    exact ⟨g, u, hv, k.cell h0 hg, k.cell h1 hg, k.cell h2 hg, IsErr.kpi15 k hb hu⟩
/-- a frame that ends at once -/
theorem rframe_end {F : Nat → Prop} (b p : Nat) (bs : List Nat) (w : World) (h : RdAt F w b bs p) (hp : p ≤ 8 * bs.length) (he : 8 * bs.length < p + 3) :
    Calls Tryz.prog 36 #[.pointer (some ⟨b, 0, none⟩), .int .i64 8, .int .i64 8] w fun e w' => ∃ x, e = .returned (.tuple #[.agg #[.int .i64 0, .int .i64 0, .slice none 0 0], x]) ∧ Kp b w w' ∧ ErrIs w' (some ([(bitsS, (p : Int))], 1)) x := by
  have U := Lib.hid (fun (W : World) (x : Ext w W) => get_end b p 3 bs W (h.ext x) hp (by decide) he)
  have E1 := Lib.hid ((Ext.refl w).alloc (.cells #[.int .i64 0, .int .i64 0, .slice none 0 0] 48))
  have hbw : b < w.heap.size := by
    obtain ⟨a, cap, hbox, -⟩ := h
    exact Ext.lt (p := ⟨b, 0, none⟩) hbox.1
  have HBL := Lib.hid (heap_alloc_new w (.cells #[.int .i64 0, .int .i64 0, .slice none 0 0] 48))
  have hsz : (w.alloc (.cells #[.int .i64 0, .int .i64 0, .slice none 0 0] 48)).heap.size = w.heap.size + 1 := by simp
  have HSZ := Lib.hid hsz
  clear h hp he hsz
  go_enter Tryz.func36, Tryz.ntmps36
  go_wp2_with fail
  have e3 : (Value.int .i64 3) = .int .i64 ((3 : Nat) : Int) := rfl
  refine (U.out _ E1.out).mono ?_; rintro e w2 ⟨x, rfl, hk, hr, he⟩
  have hbk := hk.block (k := w.heap.size) (by rw [HSZ.out]; exact Nat.lt_succ_self _) (by omega)
  rw [HBL.out] at hbk
  have q0 : w2.cell? ⟨w.heap.size, 0, none⟩ = some (.int .i64 0) := by rw [Lib.cell_of_heap hbk]; rfl
  have q1 : w2.cell? ⟨w.heap.size, 1, none⟩ = some (.int .i64 0) := by rw [Lib.cell_of_heap hbk]; rfl
  have q2 : w2.cell? ⟨w.heap.size, 2, none⟩ = some (.slice none 0 0) := by rw [Lib.cell_of_heap hbk]; rfl
  have f0 : w2.frozen? ⟨w.heap.size, 0, none⟩ = false := Lib.frozen_of_heap hbk 0
  have f1 : w2.frozen? ⟨w.heap.size, 1, none⟩ = false := Lib.frozen_of_heap hbk 1
  have f2 : w2.frozen? ⟨w.heap.size, 2, none⟩ = false := Lib.frozen_of_heap hbk 2
  obtain ⟨tx, vx, rfl⟩ := ErrIs.ne he
  have HKR := Lib.hid ((Kp.of_ext (b := b) E1.out).trans hk)
  have HQ0 := Lib.hid q0
  have HE := Lib.hid he
  have hsw : w.heap.size ≤ w2.heap.size := HKR.out.size
  clear hk hr he hbk
  go_wp2
  have y2 : (((w2.setCell ⟨w.heap.size, 0, none⟩ (.int .i64 0)).setCell ⟨w.heap.size, 1, none⟩ (.int .i64 0)).setCell ⟨w.heap.size, 2, none⟩ (.slice none 0 0)).cell? ⟨w.heap.size, 2, none⟩ = some (.slice none 0 0) :=
    World.cell?_setCell_same _ _ _ (by rw [cell_off_ne _ (by decide), cell_off_ne _ (by decide)]; exact q2)
  have y1 : (((w2.setCell ⟨w.heap.size, 0, none⟩ (.int .i64 0)).setCell ⟨w.heap.size, 1, none⟩ (.int .i64 0)).setCell ⟨w.heap.size, 2, none⟩ (.slice none 0 0)).cell? ⟨w.heap.size, 1, none⟩ = some (.int .i64 0) := by
    rw [cell_off_ne _ (by decide)]
    exact World.cell?_setCell_same _ _ _ (by rw [cell_off_ne _ (by decide)]; exact q1)
  have y0 : (((w2.setCell ⟨w.heap.size, 0, none⟩ (.int .i64 0)).setCell ⟨w.heap.size, 1, none⟩ (.int .i64 0)).setCell ⟨w.heap.size, 2, none⟩ (.slice none 0 0)).cell? ⟨w.heap.size, 0, none⟩ = some (.int .i64 0) := by
    rw [cell_off_ne _ (by decide), cell_off_ne _ (by decide)]
    exact World.cell?_setCell_same _ _ _ q0
  exact bodyPost_ret (v := .tuple #[.agg #[.int .i64 0, .int .i64 0, .slice none 0 0], .iface tx vx]) (by simp [results, Tryz.results36, go_sem, y0, y1, y2]) rfl
    ⟨_, rfl, ((HKR.out.fresh15 (Nat.le_refl _) 0 _).fresh15 (Nat.le_refl _) 1 _).fresh15 (Nat.le_refl _) 2 _, IsErr.kpi15 ((((Kp.refl w.heap.size w2).set 0 _).set 1 _).set 2 _) HQ0.out HE.out.1, HE.out.2⟩
set_option maxHeartbeats 8000000 in
set_option maxRecDepth 100000 in
/-- a head alone -/
theorem dec_head (g : Nat) (fr : Nat × Nat) (w : World) (h : w.heap[g]? = some (.cells #[.int .u8 75, .int .u8 83, .int .u8 1, .int .u8 1, .int .u8 1] 5 fr)) :
    Calls Tryz.prog 14 #[.slice (some ⟨g, 0, none⟩) 5 5] w fun e w' => ∃ x, e = .returned (.tuple #[.slice none 0 0, x]) ∧ Ext w w' ∧ IsErr w' [(sourceS, 0), (bitsS, 0)] 1 x := by
  have c0 : w.cell? ⟨g, 0, none⟩ = some (.int .u8 75) := by rw [Lib.cell_of_heap h]; rfl
  have c1 : w.cell? ⟨g, 1, none⟩ = some (.int .u8 83) := by rw [Lib.cell_of_heap h]; rfl
  have c2 : w.cell? ⟨g, 2, none⟩ = some (.int .u8 1) := by rw [Lib.cell_of_heap h]; rfl
  have c3 : w.cell? ⟨g, 3, none⟩ = some (.int .u8 1) := by rw [Lib.cell_of_heap h]; rfl
  have c4 : w.cell? ⟨g, 4, none⟩ = some (.int .u8 1) := by rw [Lib.cell_of_heap h]; rfl
  have U : Hid (∀ W, Ext w W → Calls Tryz.prog 33 #[.slice (some ⟨g, 0, none⟩) 5 5] W fun e w' => e = .returned (.int .i64 0) ∧ W = w') := fun W x => by
    have d0 := x.cell c0
    have d1 := x.cell c1
    have d2 := x.cell c2
    have d3 := x.cell c3
    have d4 := x.cell c4
    clear c0 c1 c2 c3 c4
    go_enter Tryz.func33, Tryz.ntmps33
    go_wp2
    go_ret
    exact ⟨rfl, rfl⟩
  go_enter Tryz.func14, Tryz.ntmps14
  go_wp2_with fail
  refine (U.out _ (Ext.refl w)).mono ?_; rintro e w1 ⟨rfl, rfl⟩
  have hby : Bys w (.slice (some ⟨g, 0, none⟩) 0 0) [] := ⟨⟨some ⟨g, 0, none⟩, 0, rfl, Nat.le_refl _, Nat.zero_le _, fun h => absurd h (Nat.lt_irrefl _), fun _ _ _ j u hj => by simp at hj⟩, by simp, by simp⟩
  go_wp2_with fail
  refine (newrd_any [] _ _ hby).mono ?_; rintro e w3 ⟨b, rfl, hb, hr, x3⟩
  have RF := Lib.hid (fun (W : World) (x : Ext w3 W) => rframe_end b 0 [] W (hr.ext x) (by simp) (by simp))
  have HX3 := Lib.hid x3
  have hb3 : b < w3.heap.size := by
    obtain ⟨a, cap, hbox, -⟩ := hr
    exact Ext.lt (p := ⟨b, 0, none⟩) hbox.1
  have d2 := x3.cell c2
  have d3 := x3.cell c3
  have d4 := x3.cell c4
  clear hr x3 hby U h c0 c1
  go_wp2_with fail
  refine wp_loop_rounds 1 ?_
  rw [rounds_succ]
  go_wp2_with fail
  have RB := Lib.hid (RF.out (w3.alloc (.cells #[.int .i64 0, .int .i64 0, .slice none 0 0] 48)).drew ((Ext.refl w3).alloc _).drew)
  have RA := Lib.hid (RF.out w3.drew (Ext.refl w3).drew)
  have BLK : Hid ((w3.alloc (.cells #[.int .i64 0, .int .i64 0, .slice none 0 0] 48)).drew.heap[w3.heap.size]? = some (.cells #[.int .i64 0, .int .i64 0, .slice none 0 0] 48 (0, 0))) := heap_alloc_new w3 _
  have BSZ : Hid (w3.heap.size < (w3.alloc (.cells #[.int .i64 0, .int .i64 0, .slice none 0 0] 48)).drew.heap.size) := by show _ < _; simp
  have BEX : Hid (∀ {p w' : _} (x5 : Value), Kp b (w3.alloc (.cells #[.int .i64 0, .int .i64 0, .slice none 0 0] 48)).drew w' → p = w3.heap.size →
      (w'.cell? ⟨p, 0, none⟩ = some (.int .i64 0) ∧ w'.cell? ⟨p, 1, none⟩ = some (.int .i64 0) ∧ w'.cell? ⟨p, 2, none⟩ = some (.slice none 0 0)) ∧ w'.frozen? ⟨p, 0, none⟩ = false ∧ w'.frozen? ⟨p, 1, none⟩ = false ∧ w'.frozen? ⟨p, 2, none⟩ = false) := by
    intro p w' x5 hk e
    subst e
    have hbk := hk.block BSZ.out (by omega)
    rw [BLK.out] at hbk
    exact ⟨⟨by rw [Lib.cell_of_heap hbk]; rfl, by rw [Lib.cell_of_heap hbk]; rfl, by rw [Lib.cell_of_heap hbk]; rfl⟩, Lib.frozen_of_heap hbk 0, Lib.frozen_of_heap hbk 1, Lib.frozen_of_heap hbk 2⟩
  have d2' := ((Ext.refl w3).alloc (.cells #[.int .i64 0, .int .i64 0, .slice none 0 0] 48)).cell d2
  have d3' := ((Ext.refl w3).alloc (.cells #[.int .i64 0, .int .i64 0, .slice none 0 0] 48)).cell d3
  go_region_law (go_simp; go_at_call 36; (first | (refine RB.out.mono ?_; rintro e w5 ⟨x5, rfl, hk5, he5⟩; obtain ⟨⟨q0, q1, q2⟩, f0, f1, f2⟩ := BEX.out x5 hk5 rfl) | (refine RA.out.mono ?_; rintro e w5 ⟨x5, rfl, hk5, he5⟩)))
  all_goals obtain ⟨tx, vx, rfl⟩ := ErrIs.ne he5
  all_goals first
    | (have hex := Kp.out HX3.out.drew hk5 hb; have HI := Lib.hid (he5.1.ext ((Ext.refl w5).alloc (.cells #[.int .i64 0, .int .i64 0, .slice none 0 0] 48))); have HEx := Lib.hid (hex.alloc (.cells #[.int .i64 0, .int .i64 0, .slice none 0 0] 48)))
    | (have hex := Kp.out (HX3.out.alloc (.cells #[.int .i64 0, .int .i64 0, .slice none 0 0] 48)).drew hk5 hb; have HI := Lib.hid (IsErr.kpi15 ((((Kp.refl w3.heap.size w5).set 0 (.int .i64 0)).set 1 (.int .i64 0)).set 2 (.slice none 0 0)) q0 he5.1); have HEx := Lib.hid (((hex.setCell (p := ⟨w3.heap.size, 0, none⟩) HX3.out.size (.int .i64 0)).setCell (p := ⟨w3.heap.size, 1, none⟩) HX3.out.size (.int .i64 0)).setCell (p := ⟨w3.heap.size, 2, none⟩) HX3.out.size (.slice none 0 0)))
  all_goals clear he5 hk5 hex RA RB BEX BLK BSZ RF
  all_goals go_wp2_with fail
  all_goals (refine (in_err sourceS 0 _ 1 _ _ HI.out).mono ?_; rintro e w6 ⟨u, rfl, x6, h6⟩)
  all_goals go_wp2
  all_goals go_ret2
  all_goals exact ⟨_, rfl, HEx.out.trans x6, h6⟩
end Go.Proofs.YtgohlhgapboijaaGreatDoor

/- kinlaw15.first. -/
namespace Go.Proofs.YtgohlhgapboijaaGreatDoor
set_option linter.unusedVariables false
set_option linter.unusedSimpArgs false
open Go.RowKit Go.Extern.Stop Go.Stop Go.Extern

def greyL : List Int := List.replicate 64 128
def greyV : List Fr := [(8, 8, greyL)]
theorem grey_ck : ckF greyV = none := by
  have hm : may 8 8 greyL := by decide +kernel
  unfold ckF
  rw [if_neg (by decide), if_neg, if_neg, if_neg (by decide)]
  · intro h
    apply h
    intro q hq
    have : q = 0 := by have : greyV.length = 1 := rfl; omega
    subst this
    exact ⟨rfl, rfl⟩
  · intro h
    apply h
    intro q hq
    have : q = 0 := by have : greyV.length = 1 := rfl; omega
    subst this
    exact hm
theorem grey_bytes : enBytes greyV = [75, 83, 1, 1, 1, 0, 0, 0, 0, 0, 0, 0, 0, 0] := by decide +kernel
theorem grey_str : strOf [75, 83, 1, 1, 1, 0, 0, 0, 0, 0, 0, 0, 0, 0] = { data := #[75, 83, 1, 1, 1, 0, 0, 0, 0, 0, 0, 0, 0, 0] } := by rfl
theorem grey_small : Small greyV := ⟨by decide, fun q => by
  unfold frAt greyV
  cases q with
  | zero => decide
  | succ q => simp [fr0]⟩
theorem text_head : pathT [(sourceS, 0), (bitsS, 0)] ++ codeT 1 = [115, 111, 117, 114, 99, 101, 32, 48, 58, 32, 98, 105, 116, 115, 32, 48, 58, 32, 99, 111, 100, 101, 32, 49] := by
  have h0 : Lib.decDigits 0 = [48] := by rw [Lib.decDigits, dif_pos (by omega)]; rfl
  have h1 : Lib.decDigits 1 = [49] := by rw [Lib.decDigits, dif_pos (by omega)]; rfl
  have e0 : Lib.itoa 0 = [48] := h0
  have e1 : codeT 1 = [99, 111, 100, 101, 32] ++ Lib.decDigits 1 := rfl
  rw [e1, h1]
  simp only [pathT, stepT, e0]
  rfl
theorem text_none : pathT [(sourceS, -1)] ++ codeT 1 = [115, 111, 117, 114, 99, 101, 32, 45, 49, 58, 32, 99, 111, 100, 101, 32, 49] := by
  have h1 : Lib.decDigits 1 = [49] := by rw [Lib.decDigits, dif_pos (by omega)]; rfl
  have e0 : Lib.itoa (-1) = [45, 49] := by unfold Lib.itoa; rw [if_pos (by decide)]; exact congrArg (45 :: ·) h1
  have e1 : codeT 1 = [99, 111, 100, 101, 32] ++ Lib.decDigits 1 := rfl
  rw [e1, h1]
  simp only [pathT, stepT, e0]
  rfl
theorem str_of_data {s : ByteArray} {l : List UInt8} (h : s.data.toList = l) : s = ⟨l.toArray⟩ := by
  obtain ⟨⟨m⟩⟩ := s
  have h : m = l := h
  rw [h]
theorem conv_bb (w : World) (C : Array Value) (n c : Nat) : (convert 26 26 (.slice (some ⟨w.heap.size, 0, none⟩) n c)).run Tryz.prog (w.alloc (.cells C 5)) = .ok (.slice (some ⟨w.heap.size, 0, none⟩) n c) (w.alloc (.cells C 5 (C.size, C.size + 1))) :=
  Lib.run_convert_bytes_const w 26 5 C n c Tryz.underlying26 Tryz.underlying5
set_option maxHeartbeats 8000000 in
set_option maxRecDepth 100000 in
theorem first15_any (w : World) (hg : EtIs w) (hT : PwIs w) : Calls Tryz.prog 5 #[] w fun e w' => e = .returned (.bool true) ∧ Ext w w' := by
  have HG := Lib.hid hg
  have HT := Lib.hid hT
  have E1 := Lib.hid ((Ext.refl w).alloc (.cells #[.int .i64 8, .int .i64 8, .slice none 0 0] 48))
  have HN1 := Lib.hid (FrHas.new w 8 8 (.slice none 0 0))
  have hsz : (w.alloc (.cells #[.int .i64 8, .int .i64 8, .slice none 0 0] 48)).heap.size = w.heap.size + 1 := by simp
  have HSZ := Lib.hid hsz
  clear hg hT hsz
  go_enter Tryz.func5, Tryz.ntmps5
  go_wp2_with fail
  revert E1 HN1 HSZ
  generalize w.alloc _ = w1
  generalize hB : w.heap.size = B
  intro E1 HN1 HSZ
  have HBW : Hid (w.heap.size = B) := hB
  clear hB
  go_wp2_with fail
  go_loopw [2] (fun iv wr => ∃ (i : Nat) (v : Value), i ≤ 64 ∧ iv = .int .i64 (i : Int) ∧ Hid (FrHas wr B 8 8 v) ∧ Hid (wr.ownsRow (B + 1) 3 1 v i ((List.replicate i (128 : Int)).map (Value.int .i64))) ∧ Hid (Below B w wr) ∧ B + 1 ≤ wr.heap.size) (fun iv _ => 64 - (intOf iv).toNat)
  case atStart => exact ⟨0, .slice none 0 0, Nat.zero_le _, rfl, HN1, World.ownsRow_nil _ _ _ _, (by show Below _ _ _; rw [← HBW.out]; exact E1.out), by rw [HSZ.out]; exact Nat.le_refl _⟩
  case round =>
    obtain ⟨i, v, hi, rfl, HH, HO, HE, hsz⟩ := hrel
    obtain ⟨⟨h0, h1, h2⟩, f0, f1, f2⟩ := HH.out
    obtain ⟨va, vc, rfl⟩ := (Row.of_owns HO.out).form
    by_cases hlt : i < 64
    · have t1 : (i : Int) < 64 := by omega
      go_wp2_with (at_builtin; refine push_int rfl _ _ 46 rfl Tryz.underlying46 _ i _ 128 rfl HO.out rfl hsz (by omega) ?_)
      intro v' w3 o3 b3
      have HH3 := Lib.hid (HH.out.under b3 (Nat.lt_succ_self _))
      obtain ⟨⟨-, -, g2⟩, -, -, e2⟩ := HH3.out
      have HO3 : Hid ((w3.setCell ⟨B, 2, none⟩ v').ownsRow (B + 1) 3 1 v' (i + 1) ((List.replicate (i + 1) (128 : Int)).map (Value.int .i64))) := by
        show World.ownsRow _ _ _ _ _ _ _
        have e : (List.replicate (i + 1) (128 : Int)).map (Value.int .i64) = List.replicate i (Value.int .i64 128) ++ [Value.int .i64 128] := by rw [List.replicate_succ', List.map_append, List.map_replicate]; rfl
        rw [e]
        exact row_setCell o3 B 2 (Nat.lt_succ_self _) v'
      have HE3 : Hid (Below B w (w3.setCell ⟨B, 2, none⟩ v')) := (HE.out.trans (Below.mono b3 (Nat.le_succ _))).setCell (p := ⟨B, 2, none⟩) (Nat.le_refl _) v'
      have hs3 : B + 1 ≤ (w3.setCell ⟨B, 2, none⟩ v').heap.size := by have := b3.size; simp; omega
      have HH4 := Lib.hid (HH3.out.set v')
      obtain ⟨ga, gc, rfl⟩ := (Row.of_owns o3).form
      clear o3 b3 h0 h1 h2 f0 f1 f2
      go_wp2_with fail
      exact ⟨⟨i + 1, _, by omega, by go_num, HH4, HO3, HE3, hs3⟩, by simp [intOf]; omega⟩
    · obtain rfl : i = 64 := by omega
      have t1 : ¬ ((64 : Nat) : Int) < 64 := by omega
      have HEw : Hid (Ext w wr) := by show Below _ _ _; rw [HBW.out]; exact HE.out
      have HRow := Lib.hid (Row.of_owns HO.out)
      have HFM : Hid (Fms (wr.alloc (.cells #[.int .i64 8, .int .i64 8, .slice va 64 vc] 48)) (.slice (some ⟨wr.heap.size, 0, none⟩) 1 1) greyV) := by
        refine ⟨some ⟨wr.heap.size, 0, none⟩, 1, rfl, fun _ => ⟨wr.heap.size, 0, rfl, fun q f hq => ?_⟩⟩
        have hq0 : q = 0 := by have := (List.getElem?_eq_some_iff.1 hq).1; have : greyV.length = 1 := rfl; omega
        subst hq0
        have hf : f = (8, 8, greyL) := by have := Option.some.inj (hq.symm.trans (rfl : greyV[0]? = some (8, 8, greyL))); exact this
        subst hf
        exact ⟨va, 64, vc, by simp, by simp, by simp, HRow.out.ext ((Ext.refl wr).alloc _)⟩
      have HEa := Lib.hid (HEw.out.alloc (.cells #[.int .i64 8, .int .i64 8, .slice va 64 vc] 48))
      clear HH HO HE
      go_wp2_with fail
      refine (sencode_any greyV _ _ HFM.out grey_small).mono ?_; rintro e w5 ⟨bv, x, rfl, x5, he5, hb5, -⟩
      rw [grey_ck] at he5
      have hx : x = .nilIface := he5
      subst hx
      have HB5 := Lib.hid (hb5 grey_ck).1
      have HE5 := Lib.hid (HEa.out.trans x5)
      clear x5 he5 hb5 HFM HEa
      have hb5 := HB5.out
      rw [grey_bytes] at hb5
      obtain ⟨ba, bc, rfl⟩ := hb5.form
      have HBB := Lib.hid hb5
      clear hb5 HB5
      have cbb := conv_bb
      go_wp2_with fail
      have HBK := Lib.hid (heap_alloc_new w5 (.cells #[.int .u8 75, .int .u8 83, .int .u8 1, .int .u8 1, .int .u8 1] 5 (5, 6)))
      have HEb := Lib.hid ((Ext.refl w5).alloc (.cells #[.int .u8 75, .int .u8 83, .int .u8 1, .int .u8 1, .int .u8 1] 5 (5, 6)))
      refine (dec_head w5.heap.size (5, 6) _ HBK.out).mono ?_; rintro e w6 ⟨x6, rfl, ex6, h6⟩
      have HE6 := Lib.hid (HE5.out.trans (HEb.out.trans ex6))
      have HI6 := Lib.hid h6
      have HB6 := Lib.hid (HBB.out.ext (HEb.out.trans ex6))
      clear ex6 h6 HBK HEb HBB HE5 cbb
      go_wp2_with fail
      refine (dec_nil _).mono ?_; rintro e w7 ⟨x7, rfl, ex7, h7⟩
      have HE7 := Lib.hid (HE6.out.trans ex7)
      have HI7 := Lib.hid (HI6.out.ext ex7)
      have HJ7 := Lib.hid h7
      have hb7 := HB6.out.ext ex7
      have cv : (convert 26 9 (.slice ba 14 bc)).run Tryz.prog w7 = .ok (.string { data := #[75, 83, 1, 1, 1, 0, 0, 0, 0, 0, 0, 0, 0, 0] }) w7 := by rw [← grey_str]; exact conv_bys hb7
      clear ex7 h7 HE6 HI6 HB6 hb7
      go_wp2_with fail
      refine (text_any [(sourceS, 0), (bitsS, 0)] 1 _ _ (HG.out.ext HE7.out) (HT.out.ext HE7.out) HI7.out (by simp) (by
        have h1 : (pathT [(sourceS, 0), (bitsS, 0)] ++ codeT 1).length = 24 := by rw [text_head]; rfl
        rw [List.length_append] at h1
        omega) (by intro y hy; simp at hy; rcases hy with rfl | rfl <;> decide) (by decide)).mono ?_; rintro e w8 ⟨s8, rfl, hs8, ex8⟩
      rw [text_head] at hs8
      obtain rfl := str_of_data hs8
      have HE8 := Lib.hid (HE7.out.trans ex8)
      have HJ8 := Lib.hid (HJ7.out.ext ex8)
      clear ex8 hs8 HE7 HI7 HJ7 cv
      go_wp2_with fail
      refine (text_any [(sourceS, -1)] 1 _ _ (HG.out.ext HE8.out) (HT.out.ext HE8.out) HJ8.out (by simp) (by
        have h1 : (pathT [(sourceS, -1)] ++ codeT 1).length = 17 := by rw [text_none]; rfl
        rw [List.length_append] at h1
        omega) (by intro y hy; simp at hy; subst hy; decide) (by decide)).mono ?_; rintro e w9 ⟨s9, rfl, hs9, ex9⟩
      rw [text_none] at hs9
      obtain rfl := str_of_data hs9
      go_wp2
      go_ret
      exact ⟨rfl, HE8.out.trans ex9⟩
end Go.Proofs.YtgohlhgapboijaaGreatDoor

/- kinlaw15.SourceGuesses: the walk. -/
namespace Go.Proofs.YtgohlhgapboijaaGreatDoor
set_option linter.unusedVariables false
set_option linter.unusedSimpArgs false
open Go.RowKit Go.Extern.Stop Go.Stop Go.Extern

end Go.Proofs.YtgohlhgapboijaaGreatDoor
