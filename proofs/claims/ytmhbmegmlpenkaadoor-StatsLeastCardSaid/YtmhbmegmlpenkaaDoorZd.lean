/- Contracts of this seat: Wt3, Sc1, S17, Sc2, StM2, Tl, Law, Opn, ScM, Sc3, ScG, CpO, REd, CpFs, Wg, OpF, OpG. -/
import Derived.Test.YtmhbmegmlpenkaaDoorZc
import Derived.Deep.RegionWith
import Derived.BigRegion
import Derived.BigQuiet
import Derived.Deep.RegionHeld3
import Derived.Deep.QuietTactic
import Derived.Test.YtmhbmegmlpenkaaDoorCards
import Derived.Test.YtmhbmegmlpenkaaDoorTie
import Derived.ProofKit
import Derived.OpenShut
import Derived.LaidHandle
import Derived.Deep.DeepHandedRow
import Derived.WideKeyArgs
import Derived.Deep.Matrix
import Derived.Lib.SmallJoins
import Derived.Deep.Slices
/- kinref16.Weights: its contract over this seat's translation. -/
namespace Go.Proofs.YtmhbmegmlpenkaaDoor
set_option linter.unusedVariables false
set_option linter.unusedSimpArgs false
open Go.RowKit Go.Extern.Stop Go.Stop Go.Extern

theorem own_setCell_lt {w : World} {base : Nat} {e : TypeId} {size : Nat} {v : Value} {n : Nat} {xs : List Value} (h : w.ownsRow base e size v n xs) {p : Addr} (u : Value) (hp : p.block < base) : (w.setCell p u).ownsRow base e size v n xs := by
  obtain ⟨h1, h2⟩ := h
  refine ⟨h1, ?_⟩
  rcases h2 with h2 | ⟨g, cap, cur, hv, hg, hh, r⟩
  · exact Or.inl h2
  · exact Or.inr ⟨g, cap, cur, hv, hg, by rw [Below.heap_setCell _ _ _ _ (by omega)]; exact hh, r⟩
/-- an error in a variable of the call's own, that may be written -/
def EAt (w : World) (b : Nat) (c : Int) (v : Value) : Prop := (w.cell? ⟨b, 0, none⟩ = some (.int .i64 c) ∧ w.cell? ⟨b, 1, none⟩ = some v ∧ w.frozen? ⟨b, 0, none⟩ = false ∧ w.frozen? ⟨b, 1, none⟩ = false) ∧ ∃ cs, w.heap[b]? = some (.cells cs 41 (0, 0))
theorem EAt.new (w : World) (c : Int) (v : Value) (hv : v.oneCell' = true) : EAt (w.alloc (.cells #[.int .i64 c, v] 41)) w.heap.size c v := ⟨⟨by simp, by simp, by simp, by simp⟩, _, heap_alloc_new w _⟩
theorem EAt.ext {w w' : World} {b : Nat} {c : Int} {v : Value} (h : EAt w b c v) (k : Ext w w') : EAt w' b c v :=
  ⟨⟨k.cell h.1.1, k.cell h.1.2.1, (Below.frozen k (Ext.lt h.1.1)).trans h.1.2.2.1, (Below.frozen k (Ext.lt h.1.2.1)).trans h.1.2.2.2⟩, h.2.choose, (k.block (Ext.lt h.1.1)).trans h.2.choose_spec⟩
theorem EAt.set {w : World} {b : Nat} {c : Int} {v : Value} (h : EAt w b c v) (c' : Int) (v' : Value) :
    EAt ((w.setCell ⟨b, 0, none⟩ (.int .i64 c')).setCell ⟨b, 1, none⟩ v') b c' v' := by
  obtain ⟨⟨h0, h1, h2, h3⟩, cs, h4⟩ := h
  have e0 := World.cell?_setCell_same _ _ (.int .i64 c') h0
  have e1 := (World.cell?_setCell_other w ⟨b, 0, none⟩ ⟨b, 1, none⟩ (.int .i64 c') (by simp)).trans h1
  have e2 := World.cell?_setCell_same _ _ v' e1
  have e3 := (World.cell?_setCell_other (w.setCell ⟨b, 0, none⟩ (.int .i64 c')) ⟨b, 1, none⟩ ⟨b, 0, none⟩ v' (by simp)).trans e0
  exact ⟨⟨e3, e2, by simpa using h2, by simpa using h3⟩, _, heap_setCell_same _ _ _ _ _ _ (heap_setCell_same _ _ _ _ _ _ h4)⟩
theorem EAt.own {w : World} {b : Nat} {c : Int} {v : Value} (h : EAt w b c v) {base : Nat} {e : TypeId} {size : Nat} {u : Value} {n : Nat} {xs : List Value} (k : w.ownsRow base e size u n xs) (hT : 41 ≠ e) (c' : Int) (v' : Value) :
    ((w.setCell ⟨b, 0, none⟩ (.int .i64 c')).setCell ⟨b, 1, none⟩ v').ownsRow base e size u n xs := by
  obtain ⟨-, cs, h4⟩ := h
  refine owns_setCell_ne (owns_setCell_ne k _ fun cs' hc => ?_) _ fun cs' hc => ?_
  · rw [h4] at hc
    simp only [Option.some.injEq, Obj.cells.injEq] at hc
    exact hT hc.2.1
  · rw [heap_setCell_same _ _ _ _ _ _ h4] at hc
    simp only [Option.some.injEq, Obj.cells.injEq] at hc
    exact hT hc.2.1
theorem wtE_err {L : List Fr} {b : Bool} {i : Nat} {w w' : World} {c : Int} {v : Value} (h : RErrIs w (wtE L b i) c v) : RErrIs w' (wtE L b i) c v := by
  cases hw : wtE L b i with
  | none => rw [hw] at h; exact h
  | some f =>
    obtain ⟨pe, cd⟩ := f
    obtain ⟨hpe, -⟩ := wtE_path hw
    simp only at hpe
    subst hpe
    rw [hw] at h
    exact ⟨h.1, h.2.1, Row.zero h.2.2⟩
set_option maxRecDepth 20000 in
set_option maxHeartbeats 16000000 in
theorem rweights_any (L : List Fr) (G : List (Int × Int)) (v u : Value) (w : World) (h : Fms w v L) (hr : Row w u G.length (gcells G)) (hsm : Hid (∀ (q : Nat) (f : Fr), L[q]? = some f → f.2.2.length ≤ 1000000)) (hl : L.length ≤ 1000000) (hg : G.length ≤ 1000000) :
    Calls Tryd.prog 48 #[v, u] w (RZPost w (wtL L G) (wtAns L G)) := by
  obtain ⟨a, cap, rfl⟩ := h.form
  obtain ⟨b, cap', rfl⟩ := hr.form
  obtain ⟨n, hn⟩ : ∃ n, n = L.length := ⟨_, rfl⟩
  obtain ⟨gn, hgn⟩ : ∃ gn, gn = G.length := ⟨_, rfl⟩
  have E0 : Ext w (w.alloc (.cells #[.int .i64 0, .slice none 0 0] 41)) := (Ext.refl w).alloc _
  have R0 := ResAt.new w
  have S0 : w.heap.size + 1 ≤ (w.alloc (.cells #[.int .i64 0, .slice none 0 0] 41)).heap.size := by simp
  have C0 := Lib.hid (fits_any G L.length (.slice b G.length cap') _ (hr.ext E0) hg hl)
  rw [← hn] at C0 h hl ⊢
  rw [← hgn] at C0 hr hg ⊢
  have HN := Lib.hid hn
  have HGN := Lib.hid hgn
  have HF := Lib.hid h
  have HRG := Lib.hid hr
  clear h hr hn hgn
  cases hc : covB n G with
  | false =>
    have HA : Hid (wtAns L G = range) := by show _ = _; unfold wtAns; rw [← HN.out, hc]; rfl
    have HV : Hid (wtL L G = []) := by show _ = _; unfold wtL; rw [HA.out]; rfl
    rw [hc] at C0
    clear hc
    go_enter Tryd.func48, Tryd.ntmps48
    go_wp2_with fail
    revert E0 R0 S0 C0
    generalize w.alloc (.cells #[.int .i64 0, .slice none 0 0] 41) = w0
    intro E0 R0 S0 C0
    have RB := Lib.hid R0
    clear R0
    refine (C0.out).mono ?_; rintro e w1 ⟨rfl, hx1⟩
    go_wp2_with fail
    refine (fail_any 3 _).mono ?_; rintro e w2 ⟨rfl, hx2⟩
    have E2 := (E0.trans hx1).trans hx2
    obtain ⟨r0, r1, f0, f1⟩ := RB.out.ext (hx1.trans hx2)
    clear hx1 hx2 E0
    go_wp2
    obtain ⟨e0, e1⟩ := res_cells (c := 3) r0 r1 (.slice none 0 0)
    exact bodyPost_ret (v := .tuple #[.slice none 0 0, .agg #[.int .i64 3, .slice none 0 0]]) (by simp [results, Tryd.results48, go_sem, e0, e1]) rfl ⟨_, _, _, _, _, rfl, (E2.setCell (p := ⟨w.heap.size, 0, none⟩) (Nat.le_refl _) _).setCell (p := ⟨w.heap.size, 1, none⟩) (Nat.le_refl _) _, by rw [HV.out]; exact Ints.nil _, by rw [HA.out]; exact RErrIs.code (by decide)⟩
  | true =>
    have HA : Hid (wtAns L G = wtF L (begB G) n) := by show _ = _; unfold wtAns; rw [← HN.out, hc]; rfl
    rw [hc] at C0
    unfold covB at hc
    simp only [Bool.and_eq_true, decide_eq_true_eq] at hc
    obtain ⟨⟨n1, n2⟩, hcs⟩ := hc
    have HCS := Lib.hid hcs
    clear hcs
    go_enter Tryd.func48, Tryd.ntmps48
    go_wp2_with fail
    revert E0 R0 S0 C0
    generalize w.alloc (.cells #[.int .i64 0, .slice none 0 0] 41) = w0
    intro E0 R0 S0 C0
    have RB := Lib.hid R0
    clear R0
    refine (C0.out).mono ?_; rintro e w1 ⟨rfl, hx1⟩
    have RB1 := Lib.hid (RB.out.ext hx1)
    have E1 := E0.trans hx1
    have S1 : w.heap.size + 1 ≤ w1.heap.size := Nat.le_trans S0 hx1.size
    clear E0 S0 hx1 RB C0
    go_wp2
    go_loopw [6, 7] (fun sv qv wr => ∃ (q k : Nat), q ≤ gn ∧ qv = .int .i64 q ∧ k ≤ n ∧ Hid (wr.ownsRow (w.heap.size + 1) 3 1 sv k ((rowL k fun k => wtV L (begB G k) k).map (Value.int .i64))) ∧ Hid (wtF L (begB G) k = none ∧ (∀ r ∈ G.take q, r.1 < (k : Int)) ∧ covS (n : Int) (G.drop q) (k : Int) = true) ∧ Ext w wr ∧ Hid (ResAt wr w.heap.size) ∧ w.heap.size + 1 ≤ wr.heap.size) (fun _ qv _ => gn - (intOf qv).toNat)
    case atStart => exact ⟨0, 0, Nat.zero_le _, rfl, Nat.zero_le _, World.ownsRow_nil _ _ _ _, ⟨rfl, (fun r hr => by cases hr), HCS.out⟩, E1, RB1.out, S1⟩
    case round =>
      clear E1 RB1 S1
      obtain ⟨q, k, hq, rfl, hk, HO, HK, hE, RQ, SQ⟩ := hrel
      by_cases hlt : q < gn
      · obtain ⟨p, hp⟩ : ∃ p, G[q]? = some p := ⟨_, List.getElem?_eq_getElem (by rw [← HGN.out]; exact hlt)⟩
        obtain ⟨F, C⟩ := p
        obtain ⟨z1, z2, z3, z4, z5⟩ := take_lt hp HK.out.2.2 HK.out.2.1
        have z6 := Lib.hid (fun (i : Nat) (a1 : (k : Int) ≤ (i : Int)) (a2 : (i : Int) < (k : Int) + C) => (begB_at (k := i) hp HK.out.2.2 HK.out.2.1 a1 a2).1)
        simp only at z1 z2 z3 z4 z5 z6
        obtain ⟨c, hcc⟩ : ∃ c : Nat, C = (c : Int) := ⟨C.toNat, by omega⟩
        subst hcc
        subst z3
        have HZ : Hid ((∀ r ∈ G.take (q + 1), r.1 < (k : Int) + (c : Int)) ∧ covS (n : Int) (G.drop (q + 1)) ((k : Int) + (c : Int)) = true) := ⟨z1, z2⟩
        obtain ⟨g, goff, gcp, e, -, -⟩ := (show Row w (.slice b gn cap') gn (gcells G) from HRG.out).some (by omega)
        simp only [Value.slice.injEq] at e
        obtain ⟨rfl, -, rfl⟩ := e
        have gc := gcells_get G q ((k : Int), (c : Int)) hp
        have C0 := Lib.hid (HRG.out.at gc.1)
        have C1 := Lib.hid (HRG.out.at gc.2)
        have c0 := hE.cell C0.out
        have t4 : (0 : Int) ≤ (q : Int) ∧ (q : Int) < (gn : Int) := by omega
        have i1 : IntKind.i64.wrap ((k : Int) + (c : Int)) = (k : Int) + (c : Int) := by rw [IntKind.wrap_i64]; omega
        have HWF := Lib.hid HK.out.1
        clear gc hp z1 z2 HK
        go_wp2_with fail
        clear c0
        go_loopw [6, 8] (fun sv iv wz => ∃ i : Nat, k ≤ i ∧ i ≤ k + c ∧ iv = .int .i64 (i : Int) ∧ Hid (wz.ownsRow (w.heap.size + 1) 3 1 sv i ((rowL i fun k => wtV L (begB G k) k).map (Value.int .i64))) ∧ Hid (wtF L (begB G) i = none) ∧ Ext w wz ∧ Hid (ResAt wz w.heap.size) ∧ w.heap.size + 1 ≤ wz.heap.size) (fun _ iv _ => k + c - (intOf iv).toNat)
        case atStart => exact ⟨k, Nat.le_refl _, Nat.le_add_right _ _, rfl, HO.out, HWF.out, hE, RQ.out, SQ⟩
        case round =>
          clear HO hE RQ SQ HWF
          obtain ⟨i, hi1, hi2, rfl, HO, HWF, hE, RQ, SQ⟩ := hrel
          have c0 := hE.cell C0.out
          have c1 := hE.cell C1.out
          change wr.cell? ⟨g, goff + q * 2 + 1, none⟩ = some (.int .i64 (c : Int)) at c1
          by_cases hil : i < k + c
          · have hin : i < n := by omega
            have t5 : (i : Int) < (k : Int) + (c : Int) := by omega
            have t6 : (0 : Int) ≤ (i : Int) ∧ (i : Int) < (n : Int) := by omega
            have hbb0 := z6.out i (by omega) (by omega)
            obtain ⟨bb, hb2⟩ : ∃ bb, bb = begB G i := ⟨_, rfl⟩
            have HBB := Lib.hid hb2
            rw [← hb2] at hbb0
            have hw0 : bb = false → k < i := fun e => by
              rw [e] at hbb0
              have : ¬ (i : Int) = (k : Int) := by simpa using hbb0.symm
              omega
            have hw1 : bb = true → i = k := fun e => by
              rw [e] at hbb0
              have : (i : Int) = (k : Int) := by simpa using hbb0.symm
              omega
            have HS : Hid ((rowL (i + 1) (fun k => wtV L (begB G k) k)).map (Value.int .i64) = (rowL i (fun k => wtV L (begB G k) k)).map (Value.int .i64) ++ [.int .i64 (wtV L bb i)]) := by show _ = _; rw [rowL_sn, HBB.out]
            clear hb2 hbb0
            -- the frame
            have hnl := HF.out.len
            obtain ⟨gf, foff, rfl⟩ := HF.out.had (by omega)
            obtain ⟨f, hf⟩ : ∃ f, L[i]? = some f := ⟨_, List.getElem?_eq_getElem (by rw [← hnl]; exact hin)⟩
            have hfd : frD L i = f := by unfold frD; rw [List.getD, hf]; rfl
            obtain ⟨fa, fn, fc, P0, P1, P2, P3⟩ := HF.out.at hf
            have HI : Hid (Ints w (.slice fa fn fc) f.2.2) := ⟨P3, Nat.le_trans (hsm.out _ _ hf) (by decide)⟩
            have HFD := Lib.hid hfd
            have FC : Hid (w.cell? ⟨gf, foff + i * 3, none⟩ = some (.int .i64 f.1) ∧ w.cell? ⟨gf, foff + i * 3 + 1, none⟩ = some (.int .i64 f.2.1) ∧ w.cell? ⟨gf, foff + i * 3 + 2, none⟩ = some (.slice fa fn fc)) := ⟨P0, P1, P2⟩
            have U := Lib.hid (fun w h => rinner_any f.1 f.2.1 f.2.2 fa fn fc w h)
            have b0 := inV_in f.1 f.2.1 f.2.2
            clear P0 P1 P2 P3 hf hnl hfd
            go_wp2_with fail
            go_quiet (fail)
            have AN : Ext wr (wr.drewN nq) := (Ext.refl wr).drewN _
            have hE2 := hE.trans AN
            have HO2 := Lib.hid (own_ext HO.out AN)
            have RQ2 := Lib.hid (RQ.out.ext AN)
            have SQ2 : w.heap.size + 1 ≤ (wr.drewN nq).heap.size := Nat.le_trans SQ AN.size
            clear HO hE RQ SQ AN c0 c1
            revert hE2 HO2 RQ2 SQ2
            generalize wr.drewN nq = wq
            intro hE2 HO2 RQ2 SQ2
            have p0 := hE2.cell FC.out.1
            have p1 := hE2.cell FC.out.2.1
            have p2 := hE2.cell FC.out.2.2
            go_wp2_with fail
            refine (U.out _ (HI.out.ext hE2)).mono ?_; rintro e w5 ⟨ce, ea, em, ek, rfl, hx5, he5⟩
            have A6 : Ext w5 (w5.alloc (.cells #[.int .i64 ce, .slice ea em ek] 41)) := (Ext.refl w5).alloc _
            have ET := (hE2.trans hx5).trans A6
            have HOT := Lib.hid (own_ext (own_ext HO2.out hx5) A6)
            have RT := Lib.hid ((RQ2.out.ext hx5).ext A6)
            have hST : w.heap.size + 1 ≤ (w5.alloc (.cells #[.int .i64 ce, .slice ea em ek] 41)).heap.size := Nat.le_trans SQ2 (hx5.trans A6).size
            have s0 : (w5.alloc (.cells #[.int .i64 ce, .slice ea em ek] 41)).cell? ⟨w5.heap.size, 0, none⟩ = some (.int .i64 ce) := by simp
            have s1 : (w5.alloc (.cells #[.int .i64 ce, .slice ea em ek] 41)).cell? ⟨w5.heap.size, 1, none⟩ = some (.slice ea em ek) := by simp
            have f0 : (w5.alloc (.cells #[.int .i64 ce, .slice ea em ek] 41)).frozen? ⟨w5.heap.size, 0, none⟩ = false := by simp
            have f1 : (w5.alloc (.cells #[.int .i64 ce, .slice ea em ek] 41)).frozen? ⟨w5.heap.size, 1, none⟩ = false := by simp
            have hB5 : w.heap.size + 1 ≤ w5.heap.size := Nat.le_trans SQ2 hx5.size
            have EAT := Lib.hid (EAt.new w5 ce (.slice ea em ek) rfl)
            have heT := he5.ext A6
            clear p0 p1 p2 hE2 hx5 A6 HO2 RQ2 SQ2 he5
            have c0 := ET.cell C0.out
            obtain ⟨s, hs⟩ : ∃ s, s = inV f.1 f.2.1 f.2.2 := ⟨_, rfl⟩
            rw [← hs] at b0 ⊢
            have HSV := Lib.hid hs
            have j1 : IntKind.i64.wrap (2 * s) = 2 * s := by rw [IntKind.wrap_i64]; omega
            have j2 : IntKind.i64.wrap (64 + 2 * s) = 64 + 2 * s := by rw [IntKind.wrap_i64]; omega
            clear hs U
            cases bb with
            | true =>
              have g1 : ¬ (k : Int) < (i : Int) := by have := hw1 rfl; omega
              have HV9 : wtV L true i = 64 + 2 * s := by unfold wtV; rw [if_pos rfl, HFD.out, HSV.out]
              have HE9 : wtE L true i = inAns f.1 f.2.1 f.2.2 := by unfold wtE; rw [if_pos rfl, HFD.out]
              rw [HV9] at HS
              rw [← HE9] at heT
              clear HV9 HE9 hw0 hw1
              go_wp2_with fail
              revert ET HOT RT hST s0 s1 f0 f1 EAT heT c0
              generalize w5.alloc (.cells #[.int .i64 ce, .slice ea em ek] 41) = wT
              intro ET HOT RT hST s0 s1 f0 f1 EAT heT c0
              clear c0 f0 f1 hB5
              have ST := ET.size
              have hST2 : w.heap.size < wT.heap.size := hST
              cases hw : wtE L true i with
              | some f =>
                obtain ⟨pe, cd⟩ := f
                obtain ⟨hpe, hcd⟩ := wtE_path hw
                simp only at hpe hcd
                subst hpe
                rw [hw] at heT
                obtain ⟨hce, -, hrow⟩ := heT
                subst hce
                have hc0 : (ce == 0) = false := by simpa using hcd
                have HR : Hid (wtAns L G = some ((stt, (i : Int)) :: [], ce)) := HA.out.trans (wtF_at HWF.out (by rw [← HBB.out]; exact hw) hin)
                have HV : Hid (wtL L G = []) := by show _ = _; unfold wtL; rw [HR.out]
                have HX := Lib.hid hrow
                have HCD := Lib.hid hcd
                clear hw hrow hcd HOT
                go_wp2_with fail
                refine (ok_any ce _ _).mono ?_; rintro e wA ⟨rfl, hxA⟩
                rw [hc0]
                have t0 := hxA.cell s0
                have t1 := hxA.cell s1
                have HX' := Lib.hid (HX.out.ext hxA)
                have RA := Lib.hid (RT.out.ext hxA)
                have EA := ET.trans hxA
                have hSA : w.heap.size < wA.heap.size := Nat.lt_of_lt_of_le hST2 hxA.size
                clear s0 s1 hxA HX RT ET
                go_wp2_with fail
                refine (refIn_err stt (i : Int) ce _ [] _ HX'.out HCD.out (by decide)).mono ?_; rintro e w6 ⟨u6, rfl, ho6, hx6⟩
                obtain ⟨gu, gcap, rfl⟩ := own_addr2 ho6 (by omega)
                have HO6 := Lib.hid ho6
                obtain ⟨r0, r1, f0, f1⟩ := RA.out.ext hx6
                have E6 := EA.trans hx6
                clear t0 t1 ho6 hx6
                go_wp2
                obtain ⟨e0, e1⟩ := res_cells (c := ce) r0 r1 (.slice (some ⟨gu, 0, none⟩) 1 gcap)
                exact bodyPost_ret (v := .tuple #[.slice none 0 0, .agg #[.int .i64 ce, .slice (some ⟨gu, 0, none⟩) 1 gcap]]) (by simp [results, Tryd.results48, go_sem, e0, e1]) rfl ⟨_, _, _, _, _, rfl, (E6.setCell (p := ⟨w.heap.size, 0, none⟩) (Nat.le_refl _) _).setCell (p := ⟨w.heap.size, 1, none⟩) (Nat.le_refl _) _, by rw [HV.out]; exact Ints.nil _, by rw [HR.out]; exact ⟨rfl, HCD.out, Row.of_owns (own_setCell_lt (own_setCell_lt HO6.out _ hSA) _ hSA)⟩⟩
              | none =>
                have HWN := Lib.hid (wtF_next HWF.out (by rw [← HBB.out]; exact hw))
                rw [hw] at heT
                obtain ⟨rfl, hv⟩ := heT
                simp only [Value.slice.injEq] at hv
                obtain ⟨rfl, rfl, rfl⟩ := hv
                clear hw
                go_wp2_with fail
                refine (ok_any 0 _ _).mono ?_; rintro e wA ⟨rfl, hxA⟩
                rw [show ((0 : Int) == 0) = true from rfl]
                have EA := ET.trans hxA
                have RA := Lib.hid (RT.out.ext hxA)
                have HOA := Lib.hid (own_ext HOT.out hxA)
                have hSA : w.heap.size + 1 ≤ wA.heap.size := Nat.lt_of_lt_of_le hST2 hxA.size
                clear s0 s1 hxA RT ET HOT ST
                go_wp2_with (at_builtin; refine push_grow rfl _ _ 22 rfl Tryd.underlying22 _ i _ _ rfl HOA.out (by show Value.slice (some ⟨wA.heap.size, 0, none⟩) 1 1 = _; simp) hSA (by omega) ?_; intro v' w7 h1 h2 h3)
                have E7 : Ext w w7 := EA.of_below h2 (Nat.le_succ _)
                have HO7 := Lib.hid h1
                have R7 := Lib.hid (RA.out.under h2 (Nat.lt_succ_self _))
                have S7 : w.heap.size + 1 ≤ w7.heap.size := Nat.le_trans hSA h2.size
                clear h1 h2 h3
                go_wp2
                go_roundw
                case rel => exact ⟨i + 1, by omega, by omega, by go_num, by
                  show World.ownsRow _ _ _ _ _ _ _
                  rw [HS.out]
                  exact HO7.out, HWN.out, E7, R7.out, S7⟩
                case measure => simp [intOf]; omega
            | false =>
              have g1 : (k : Int) < (i : Int) := by have := hw0 rfl; omega
              have hnl := HF.out.len
              obtain ⟨p, hp⟩ : ∃ p, L[i - 1]? = some p := ⟨_, List.getElem?_eq_getElem (by rw [← hnl]; omega)⟩
              have hpd : frD L (i - 1) = p := by unfold frD; rw [List.getD, hp]; rfl
              obtain ⟨pa, pn, pc, Q0, Q1, Q2, Q3⟩ := HF.out.at hp
              have HP : Hid (Ints w (.slice pa pn pc) p.2.2) := ⟨Q3, Nat.le_trans (hsm.out _ _ hp) (by decide)⟩
              have HV9 : wtV L false i = 64 + ouV f.1 f.2.1 f.2.2 p.1 p.2.1 p.2.2 := by unfold wtV; rw [if_neg (by decide), HFD.out, hpd]
              have HE9 : wtE L false i = frAns f.1 f.2.1 f.2.2 p.1 p.2.1 p.2.2 := by unfold wtE; rw [if_neg (by decide), HFD.out, hpd]
              have U := Lib.hid (fun w h k => router_any f.1 f.2.1 p.1 p.2.1 f.2.2 p.2.2 fa pa fn pn fc pc w h k)
              have b1 := ouV_in f.1 f.2.1 f.2.2 p.1 p.2.1 p.2.2
              rw [HV9] at HS
              rw [← HE9] at U
              obtain ⟨P, hP⟩ : ∃ P, P = i - 1 := ⟨_, rfl⟩
              have t2 : IntKind.i64.wrap ((i : Int) - 1) = (P : Int) := by rw [IntKind.wrap_i64]; omega
              have t3 : (0 : Int) ≤ (P : Int) ∧ (P : Int) < (n : Int) := by omega
              rw [← hP] at Q0 Q1 Q2
              clear HV9 HE9 hw0 hw1 hP hp hpd hnl Q3
              revert U HS b1
              generalize ouV f.1 f.2.1 f.2.2 p.1 p.2.1 p.2.2 = o
              intro HS U b1
              have j3 : IntKind.i64.wrap (64 + o) = 64 + o := by rw [IntKind.wrap_i64]; omega
              go_wp2_with fail
              revert ET HOT RT hST s0 s1 f0 f1 EAT heT c0
              generalize w5.alloc (.cells #[.int .i64 ce, .slice ea em ek] 41) = wT
              intro ET HOT RT hST s0 s1 f0 f1 EAT heT c0
              have HEA : Hid (EAt wT.drew w5.heap.size ce (.slice ea em ek)) := EAT.out.ext (Ext.refl wT).drew
              clear c0 s0 s1 f0 f1 heT
              have p0 := ET.cell FC.out.1
              have p1 := ET.cell FC.out.2.1
              have p2 := ET.cell FC.out.2.2
              have q0 := ET.cell Q0
              have q1 := ET.cell Q1
              have q2 := ET.cell Q2
              have HED : Hid (Ext w wT.drew) := ET.drew
              have UU := Lib.hid (U.out _ (HI.out.ext HED.out) (HP.out.ext HED.out))
              go_region_law (go_simp; go_at_call 46; refine UU.out.mono ?_; rintro e w6 ⟨ce6, ea6, em6, ek6, rfl, hx6, he6⟩; have HE6 := Lib.hid (HEA.out.ext hx6); obtain ⟨⟨y0, y1, y2, y3⟩, -⟩ := HE6.out)
              all_goals
                have EE6 : Ext w w6 := HED.out.trans hx6
                have RT6 := RT.out.ext ((Ext.refl wT).drew.trans hx6)
                have hb0 : w.heap.size ≤ w5.heap.size := Nat.le_of_succ_le hB5
                have ET : Ext w ((w6.setCell ⟨w5.heap.size, 0, none⟩ (.int .i64 ce6)).setCell ⟨w5.heap.size, 1, none⟩ (.slice ea6 em6 ek6)) := (EE6.setCell (p := ⟨w5.heap.size, 0, none⟩) hb0 _).setCell (p := ⟨w5.heap.size, 1, none⟩) hb0 _
                have HOT := Lib.hid (HE6.out.own (own_ext HOT.out ((Ext.refl wT).drew.trans hx6)) (by decide) ce6 (.slice ea6 em6 ek6))
                have RT : Hid (ResAt ((w6.setCell ⟨w5.heap.size, 0, none⟩ (.int .i64 ce6)).setCell ⟨w5.heap.size, 1, none⟩ (.slice ea6 em6 ek6)) w.heap.size) := RT6.under (((Below.refl (w.heap.size + 1) w6).setCell (p := ⟨w5.heap.size, 0, none⟩) hB5 _).setCell (p := ⟨w5.heap.size, 1, none⟩) hB5 _) (Nat.lt_succ_self _)
                have hST : w.heap.size + 1 ≤ ((w6.setCell ⟨w5.heap.size, 0, none⟩ (.int .i64 ce6)).setCell ⟨w5.heap.size, 1, none⟩ (.slice ea6 em6 ek6)).heap.size := by simp; exact Nat.le_trans hST (Nat.le_trans (Ext.refl wT).drew.size hx6.size)
                obtain ⟨⟨s0, s1, -, -⟩, -⟩ := HE6.out.set ce6 (.slice ea6 em6 ek6)
                have heT := wtE_err (w' := ((w6.setCell ⟨w5.heap.size, 0, none⟩ (.int .i64 ce6)).setCell ⟨w5.heap.size, 1, none⟩ (.slice ea6 em6 ek6))) he6
                clear y0 y1 y2 y3 HE6 hx6 he6 EE6 RT6 hb0 hB5 p0 p1 p2 q0 q1 q2 UU HEA HED EAT Q0 Q1 Q2 U HP
                go_wp2_with fail
                revert ET HOT RT hST s0 s1 heT
                generalize (w6.setCell ⟨w5.heap.size, 0, none⟩ (.int .i64 ce6)).setCell ⟨w5.heap.size, 1, none⟩ (.slice ea6 em6 ek6) = wT
                intro ET HOT RT hST s0 s1 heT
                generalize ce6 = ce at *
                generalize ea6 = ea at *
                generalize em6 = em at *
                generalize ek6 = ek at *
                have ST := ET.size
                have hST2 : w.heap.size < wT.heap.size := hST
                cases hw : wtE L false i with
                | some f =>
                  obtain ⟨pe, cd⟩ := f
                  obtain ⟨hpe, hcd⟩ := wtE_path hw
                  simp only at hpe hcd
                  subst hpe
                  rw [hw] at heT
                  obtain ⟨hce, -, hrow⟩ := heT
                  subst hce
                  have hc0 : (ce == 0) = false := by simpa using hcd
                  have HR : Hid (wtAns L G = some ((stt, (i : Int)) :: [], ce)) := HA.out.trans (wtF_at HWF.out (by rw [← HBB.out]; exact hw) hin)
                  have HV : Hid (wtL L G = []) := by show _ = _; unfold wtL; rw [HR.out]
                  have HX := Lib.hid hrow
                  have HCD := Lib.hid hcd
                  clear hw hrow hcd HOT
                  go_wp2_with fail
                  refine (ok_any ce _ _).mono ?_; rintro e wA ⟨rfl, hxA⟩
                  rw [hc0]
                  have t0 := hxA.cell s0
                  have t1 := hxA.cell s1
                  have HX' := Lib.hid (HX.out.ext hxA)
                  have RA := Lib.hid (RT.out.ext hxA)
                  have EA := ET.trans hxA
                  have hSA : w.heap.size < wA.heap.size := Nat.lt_of_lt_of_le hST2 hxA.size
                  clear s0 s1 hxA HX RT ET
                  go_wp2_with fail
                  refine (refIn_err stt (i : Int) ce _ [] _ HX'.out HCD.out (by decide)).mono ?_; rintro e w6 ⟨u6, rfl, ho6, hx6⟩
                  obtain ⟨gu, gcap, rfl⟩ := own_addr2 ho6 (by omega)
                  have HO6 := Lib.hid ho6
                  obtain ⟨r0, r1, f0, f1⟩ := RA.out.ext hx6
                  have E6 := EA.trans hx6
                  clear t0 t1 ho6 hx6
                  go_wp2
                  obtain ⟨e0, e1⟩ := res_cells (c := ce) r0 r1 (.slice (some ⟨gu, 0, none⟩) 1 gcap)
                  exact bodyPost_ret (v := .tuple #[.slice none 0 0, .agg #[.int .i64 ce, .slice (some ⟨gu, 0, none⟩) 1 gcap]]) (by simp [results, Tryd.results48, go_sem, e0, e1]) rfl ⟨_, _, _, _, _, rfl, (E6.setCell (p := ⟨w.heap.size, 0, none⟩) (Nat.le_refl _) _).setCell (p := ⟨w.heap.size, 1, none⟩) (Nat.le_refl _) _, by rw [HV.out]; exact Ints.nil _, by rw [HR.out]; exact ⟨rfl, HCD.out, Row.of_owns (own_setCell_lt (own_setCell_lt HO6.out _ hSA) _ hSA)⟩⟩
                | none =>
                  have HWN := Lib.hid (wtF_next HWF.out (by rw [← HBB.out]; exact hw))
                  rw [hw] at heT
                  obtain ⟨rfl, hv⟩ := heT
                  simp only [Value.slice.injEq] at hv
                  obtain ⟨rfl, rfl, rfl⟩ := hv
                  clear hw
                  go_wp2_with fail
                  refine (ok_any 0 _ _).mono ?_; rintro e wA ⟨rfl, hxA⟩
                  rw [show ((0 : Int) == 0) = true from rfl]
                  have EA := ET.trans hxA
                  have RA := Lib.hid (RT.out.ext hxA)
                  have HOA := Lib.hid (own_ext HOT.out hxA)
                  have hSA : w.heap.size + 1 ≤ wA.heap.size := Nat.lt_of_lt_of_le hST2 hxA.size
                  clear s0 s1 hxA RT ET HOT ST
                  go_wp2_with (at_builtin; refine push_grow rfl _ _ 22 rfl Tryd.underlying22 _ i _ _ rfl HOA.out (by show Value.slice (some ⟨wA.heap.size, 0, none⟩) 1 1 = _; simp) hSA (by omega) ?_; intro v' w7 h1 h2 h3)
                  have E7 : Ext w w7 := EA.of_below h2 (Nat.le_succ _)
                  have HO7 := Lib.hid h1
                  have R7 := Lib.hid (RA.out.under h2 (Nat.lt_succ_self _))
                  have S7 : w.heap.size + 1 ≤ w7.heap.size := Nat.le_trans hSA h2.size
                  clear h1 h2 h3
                  go_wp2
                  go_roundw
                  case rel => exact ⟨i + 1, by omega, by omega, by go_num, by
                    show World.ownsRow _ _ _ _ _ _ _
                    rw [HS.out]
                    exact HO7.out, HWN.out, E7, R7.out, S7⟩
                  case measure => simp [intOf]; omega
          · obtain rfl : i = k + c := by omega
            have t5 : ¬ ((k + c : Nat) : Int) < (k : Int) + (c : Int) := by omega
            have t6 : ((k + c : Nat) : Int) = (k : Int) + (c : Int) := by omega
            have HZ2 : Hid ((∀ r ∈ G.take (q + 1), r.1 < ((k + c : Nat) : Int)) ∧ covS (n : Int) (G.drop (q + 1)) ((k + c : Nat) : Int) = true) := by rw [t6]; exact HZ.out
            clear t6
            go_wp2
            go_quiet (fail)
            go_wp2
            go_roundw
            case rel => exact ⟨q + 1, k + c, by omega, by go_num, by omega, own_ext HO.out ((Ext.refl wr).drewN _), ⟨HWF.out, HZ2.out.1, HZ2.out.2⟩, hE.drewN _, RQ.out.ext ((Ext.refl wr).drewN _), Nat.le_trans SQ ((Ext.refl wr).drewN _).size⟩
            case measure => simp [intOf]; omega
      · have hk2 : k = n := by
          have := HK.out.2.2
          rw [covS_end (by rw [← HGN.out]; omega)] at this
          have := of_decide_eq_true this
          omega
        have HR : Hid (wtAns L G = none) := by show _ = _; rw [HA.out, ← hk2]; exact HK.out.1
        have HV : Hid (wtL L G = rowL k fun k => wtV L (begB G k) k) := by show _ = _; unfold wtL; rw [HR.out, ← HN.out, hk2]
        have hkn : ¬ (q : Int) < (gn : Int) := by omega
        obtain ⟨r0, r1, f0, f1⟩ := RQ.out
        have OW := fun x y => own_setCell_lt (own_setCell_lt HO.out (p := ⟨w.heap.size, 0, none⟩) x (Nat.lt_succ_self _)) (p := ⟨w.heap.size, 1, none⟩) y (Nat.lt_succ_self _)
        have OH := Lib.hid OW
        clear hlt hk2 OW
        go_wp2
        obtain ⟨e0, e1⟩ := res_cells (c := 0) r0 r1 (.slice none 0 0)
        exact bodyPost_ret (v := .tuple #[u6, .agg #[.int .i64 0, .slice none 0 0]]) (by simp [results, Tryd.results48, go_sem, e0, e1]) rfl ⟨_, _, _, _, _, rfl, (hE.setCell (p := ⟨w.heap.size, 0, none⟩) (Nat.le_refl _) _).setCell (p := ⟨w.heap.size, 1, none⟩) (Nat.le_refl _) _, by rw [HV.out]; exact Ints.of_row (OH.out _ _) (by omega), by rw [HR.out]; exact RErrIs.zero⟩
end Go.Proofs.YtmhbmegmlpenkaaDoor

/- kinlaw16.first; kinlaw16.SceneUnlikes: the walks. -/
namespace Go.Proofs.YtmhbmegmlpenkaaDoor
set_option linter.unusedVariables false
set_option linter.unusedSimpArgs false
open Go.RowKit Go.Extern.Stop Go.Stop Go.Extern

theorem FrIn.mk {w : World} {g i : Nat} {W H : Int} {a : Option Addr} {n cap : Nat} {zs : List Int} (h0 : w.cell? ⟨g, i, none⟩ = some (.int .i64 W)) (h1 : w.cell? ⟨g, i + 1, none⟩ = some (.int .i64 H)) (h2 : w.cell? ⟨g, i + 2, none⟩ = some (.slice a n cap)) (h3 : Row w (.slice a n cap) zs.length (zs.map (Value.int .i64))) : FrIn w g i (W, H, zs) := ⟨a, n, cap, h0, h1, h2, h3⟩
theorem fms2 (w : World) (W H W' H' : Int) (a b : Option Addr) (n m ca cb : Nat) (xs ys : List Int) (ha : Row w (.slice a n ca) xs.length (xs.map (Value.int .i64))) (hb : Row w (.slice b m cb) ys.length (ys.map (Value.int .i64))) :
    Fms (w.alloc (.cells #[.int .i64 W, .int .i64 H, .slice a n ca, .int .i64 W', .int .i64 H', .slice b m cb] 24)) (.slice (some ⟨w.heap.size, 0, none⟩) 2 2) [(W, H, xs), (W', H', ys)] := by
  have A : Ext w (w.alloc (.cells #[.int .i64 W, .int .i64 H, .slice a n ca, .int .i64 W', .int .i64 H', .slice b m cb] 24)) := (Ext.refl w).alloc _
  refine ⟨_, _, rfl, fun _ => ⟨w.heap.size, 0, rfl, fun q f hq => ?_⟩⟩
  match q, hq with
  | 0, hq => cases hq; exact FrIn.mk (by simp) (by simp) (by simp) (ha.ext A)
  | 1, hq => cases hq; exact FrIn.mk (by simp) (by simp) (by simp) (hb.ext A)
  | q + 2, hq => simp at hq
theorem fms3 (w : World) (W H : Int) (a b c : Option Addr) (n ca cb cc : Nat) (xs : List Int) (ha : Row w (.slice a n ca) xs.length (xs.map (Value.int .i64))) (hb : Row w (.slice b n cb) xs.length (xs.map (Value.int .i64))) (hc : Row w (.slice c n cc) xs.length (xs.map (Value.int .i64))) :
    Fms (w.alloc (.cells #[.int .i64 W, .int .i64 H, .slice a n ca, .int .i64 W, .int .i64 H, .slice b n cb, .int .i64 W, .int .i64 H, .slice c n cc] 24)) (.slice (some ⟨w.heap.size, 0, none⟩) 3 3) [(W, H, xs), (W, H, xs), (W, H, xs)] := by
  have A : Ext w (w.alloc (.cells #[.int .i64 W, .int .i64 H, .slice a n ca, .int .i64 W, .int .i64 H, .slice b n cb, .int .i64 W, .int .i64 H, .slice c n cc] 24)) := (Ext.refl w).alloc _
  refine ⟨_, _, rfl, fun _ => ⟨w.heap.size, 0, rfl, fun q f hq => ?_⟩⟩
  match q, hq with
  | 0, hq => cases hq; exact FrIn.mk (by simp) (by simp) (by simp) (ha.ext A)
  | 1, hq => cases hq; exact FrIn.mk (by simp) (by simp) (by simp) (hb.ext A)
  | 2, hq => cases hq; exact FrIn.mk (by simp) (by simp) (by simp) (hc.ext A)
  | q + 3, hq => simp at hq
def P3 : List Int := rowL 64 fun _ => 3
def P0 : List Int := rowL 64 fun _ => 0
def P1 : List Int := rowL 64 fun _ => 1
def L3 : List Fr := [(8, 8, P3), (8, 8, P3), (8, 8, P3)]
theorem l3_facts : grpAns L3 0 16 = none ∧ grpV L3 0 16 = [(0, 3)] ∧ grpAns L3 0 2 = none ∧ grpV L3 0 2 = [(0, 2), (2, 1)] := by decide +kernel
theorem p01_facts : frAns 8 8 P0 8 8 P1 = none ∧ unlV 8 8 P0 8 8 P1 = 64 := by decide +kernel
theorem nil_facts : grpAns [] 0 1 = form ∧ grpV [] 0 1 = [] := by decide +kernel
theorem of_fact : ofV 2 [(0, 2), (2, 1)] 0 = 1 := by decide
theorem l3_small : ∀ (q : Nat) (f : Fr), L3[q]? = some f → f.2.2.length ≤ 1000000 := fun q f hq => by
  have hm := List.mem_of_getElem? hq
  unfold L3 at hm
  simp only [List.mem_cons, List.not_mem_nil, or_false] at hm
  rcases hm with rfl | rfl | rfl <;> (show P3.length ≤ _; unfold P3; rw [rowL_length]; decide)
theorem g2_small : ∀ (q : Nat) (p : Int × Int), ([(0, 2), (2, 1)] : List (Int × Int))[q]? = some p → small p := fun q p hq => by
  have hm := List.mem_of_getElem? hq
  simp only [List.mem_cons, List.not_mem_nil, or_false] at hm
  rcases hm with rfl | rfl <;> (unfold small; decide)
theorem row_opened {w : World} {v : Value} {n : Nat} {xs : List Value} (h : Row w v n xs) (hn : 0 < n) : ∃ g off cap, v = .slice (some ⟨g, off, none⟩) n cap ∧ ∀ j u, xs[j]? = some u → w.cell? ⟨g, off + j, none⟩ = some u := by
  obtain ⟨a, cap, h0, h1, h2, h3, h4⟩ := h
  obtain ⟨g, off, rfl⟩ := h3 hn
  exact ⟨g, off, cap, h0, fun j u hu => h4 g off rfl j u hu⟩
set_option maxRecDepth 20000 in
set_option maxHeartbeats 4000000 in
theorem first16_any (w : World) (hg : EtIs w) : Calls Tryd.prog 33 #[] w fun e w' => e = .returned (.bool true) ∧ Ext w w' := by
  obtain ⟨m1, m2, m3, m4⟩ := l3_facts
  have S1 := fun v W (h : Fms W v L3) => groups_any L3 0 16 v W h l3_small
  have S2 := fun v W (h : Fms W v L3) => groups_any L3 0 2 v W h l3_small
  have S3 := fun W => groups_any [] 0 1 (.slice none 0 0) W (Fms.nil W) (fun q f hq => by simp at hq)
  have S4 := fun a b n m ca cb W h k => unlike_any 8 8 8 8 P0 P1 a b n m ca cb W h k
  rw [m1, m2] at S1
  rw [m3, m4] at S2
  rw [nil_facts.1, nil_facts.2] at S3
  rw [p01_facts.1, p01_facts.2] at S4
  have H1 := Lib.hid S1
  have H2 := Lib.hid S2
  have H3 := Lib.hid S3
  have H4 := Lib.hid S4
  clear m1 m2 m3 m4 S1 S2 S3 S4
  go_enter Tryd.func33, Tryd.ntmps33
  go_wp2_with fail
  refine (plain_any 3 _).mono ?_; rintro e w1 ⟨a1, c1, rfl, hx1, hz1⟩
  go_wp2_with fail
  refine (plain_any 3 _).mono ?_; rintro e w2 ⟨a2, c2, rfl, hx2, hz2⟩
  go_wp2_with fail
  refine (plain_any 3 _).mono ?_; rintro e w3 ⟨a3, c3, rfl, hx3, hz3⟩
  have HL := Lib.hid (fms3 w3 8 8 a1 a2 a3 64 c1 c2 c3 P3 (hz1.ext (by repeat (first | exact Ext.refl _ | assumption | refine Ext.alloc ?_ _ | refine Ext.drew ?_ | refine Ext.drewN ?_ _ | refine Ext.setCell ?_ (by first | exact Nat.le_refl _ | (simp; done) | omega) _ | refine Ext.trans ?_ (by assumption)))).1 (hz2.ext (by repeat (first | exact Ext.refl _ | assumption | refine Ext.alloc ?_ _ | refine Ext.drew ?_ | refine Ext.drewN ?_ _ | refine Ext.setCell ?_ (by first | exact Nat.le_refl _ | (simp; done) | omega) _ | refine Ext.trans ?_ (by assumption)))).1 hz3.1)
  have A3 : Ext w3 (w3.alloc (.cells #[.int .i64 8, .int .i64 8, .slice a1 64 c1, .int .i64 8, .int .i64 8, .slice a2 64 c2, .int .i64 8, .int .i64 8, .slice a3 64 c3] 24)) := (Ext.refl w3).alloc _
  go_wp2_with fail
  refine (H1.out _ _ HL.out).mono ?_; rintro e w4 ⟨u4, x4, rfl, hx4, hr4, he4⟩
  obtain rfl : x4 = .nilIface := he4
  obtain ⟨g4, o4, k4, rfl, hc4⟩ := row_opened hr4 (by decide)
  go_wp2_with fail
  refine (H2.out _ _ (HL.out.ext hx4)).mono ?_; rintro e w5 ⟨u5, x5, rfl, hx5, hr5, he5⟩
  obtain rfl : x5 = .nilIface := he5
  have HR5 := Lib.hid hr5
  obtain ⟨g5, o5, k5, rfl, hc5⟩ := row_opened hr5 (by decide)
  go_wp2_with fail
  refine (plain_any 0 _).mono ?_; rintro e w6 ⟨a6, c6, rfl, hx6, hz6⟩
  go_wp2_with fail
  refine (plain_any 1 _).mono ?_; rintro e w7 ⟨a7, c7, rfl, hx7, hz7⟩
  go_wp2_with fail
  refine (H4.out _ _ _ _ _ _ _ (hz6.ext (by repeat (first | exact Ext.refl _ | assumption | refine Ext.alloc ?_ _ | refine Ext.drew ?_ | refine Ext.drewN ?_ _ | refine Ext.setCell ?_ (by first | exact Nat.le_refl _ | (simp; done) | omega) _ | refine Ext.trans ?_ (by assumption)))) hz7).mono ?_; rintro e w8 ⟨x8, rfl, hx8, he8⟩
  obtain rfl : x8 = .nilIface := he8
  go_wp2_with fail
  refine (H3.out _).mono ?_; rintro e w9 ⟨u9, x9, rfl, hx9, hr9, he9⟩
  have EW9 := Lib.hid (show Ext w w9 from (by repeat (first | exact Ext.refl _ | assumption | refine Ext.alloc ?_ _ | refine Ext.drew ?_ | refine Ext.drewN ?_ _ | refine Ext.setCell ?_ (by first | exact Nat.le_refl _ | (simp; done) | omega) _ | refine Ext.trans ?_ (by assumption))))
  have E59 := hx6.trans (hx7.trans (hx8.trans hx9))
  have E49 := hx5.trans E59
  have q1 := E49.cell (hc4 1 _ rfl)
  have q2 := E59.cell (hc5 2 _ rfl)
  clear E49
  go_wp2_with fail
  refine (fail_any 2 _).mono ?_; rintro e wA ⟨rfl, hxA⟩
  go_wp2_with fail
  refine (same_fall form _ _ _ _ (hg.ext (EW9.out.trans hxA)) (he9.ext hxA) (RErrIs.code (by decide))).mono ?_; rintro e wB ⟨rfl, hxB⟩
  have E5B : Ext w5 wB := (E59.trans hxA).trans hxB
  go_wp2_with fail
  refine (of_any [(0, 2), (2, 1)] 2 _ _ (HR5.out.ext E5B) (by decide) (by decide) g2_small).mono ?_; rintro e wC ⟨rfl, hxC⟩
  rw [of_fact]
  go_wp2
  go_ret
  exact ⟨rfl, ((EW9.out.trans hxA).trans hxB).trans hxC⟩
end Go.Proofs.YtmhbmegmlpenkaaDoor

/- kinlaw17.half, first: contracts over this seat's translation. -/
namespace Go.Proofs.YtmhbmegmlpenkaaDoor
set_option linter.unusedVariables false
set_option linter.unusedSimpArgs false
open Go.RowKit Go.Extern.Stop Go.Stop Go.Extern

def altF (a b : Int) (j : Nat) : Int := if j % 2 = 0 then a else b
theorem alt_two (a b : Int) (k : Nat) : (rowL (2 * (k + 1)) (altF a b)).map (Value.int .i64) = (rowL (2 * k) (altF a b)).map (Value.int .i64) ++ [.int .i64 a, .int .i64 b] := by
  rw [show 2 * (k + 1) = 2 * k + 1 + 1 by omega, rowL_sn, rowL_sn, List.append_assoc]
  have h1 : altF a b (2 * k) = a := by unfold altF; rw [if_pos (by omega)]
  have h2 : altF a b (2 * k + 1) = b := by unfold altF; rw [if_neg (by omega)]
  rw [h1, h2]
  rfl
set_option maxRecDepth 20000 in
set_option maxHeartbeats 2000000 in
theorem half_any (x y : Int) (w : World) :
    Calls Tryd.prog 76 #[.int .i64 x, .int .i64 y] w fun e w' => ∃ a cap, e = .returned (.agg #[.int .i64 8, .int .i64 8, .slice a 64 cap]) ∧ Ext w w' ∧ Ints w' (.slice a 64 cap) (rowL 64 (altF x y)) := by
  obtain ⟨i0, hi, hz0, hz1, hz2⟩ := info_parts infoInt
  have FA0 := FrHas.new w 0 0 (.slice none 0 0)
  have E0 : Ext w (w.alloc (.cells #[.int .i64 0, .int .i64 0, .slice none 0 0] 24)) := (Ext.refl w).alloc _
  have A1 : Ext (w.alloc (.cells #[.int .i64 0, .int .i64 0, .slice none 0 0] 24)) ((w.alloc (.cells #[.int .i64 0, .int .i64 0, .slice none 0 0] 24)).alloc (.cells #[.int .i64 8, .int .i64 8, .slice none 0 0] 24)) := (Ext.refl _).alloc _
  have FB0 : FrHas ((w.alloc (.cells #[.int .i64 0, .int .i64 0, .slice none 0 0] 24)).alloc (.cells #[.int .i64 8, .int .i64 8, .slice none 0 0] 24)) (w.heap.size + 1) 8 8 (.slice none 0 0) := by
    have := FrHas.new (w.alloc (.cells #[.int .i64 0, .int .i64 0, .slice none 0 0] 24)) 8 8 (.slice none 0 0)
    simpa using this
  have HF := Lib.hid (FA0.ext A1)
  have HV := Lib.hid FB0
  have E1 := E0.trans A1
  have hS : w.heap.size + 2 ≤ ((w.alloc (.cells #[.int .i64 0, .int .i64 0, .slice none 0 0] 24)).alloc (.cells #[.int .i64 8, .int .i64 8, .slice none 0 0] 24)).heap.size := by simp
  clear FA0 FB0 E0 A1
  go_enter Tryd.func76, Tryd.ntmps76
  go_wp2_with fail
  go_loopw [6] (fun iv wr => ∃ (k : Nat) (u : Value), k ≤ 32 ∧ iv = .int .i64 k ∧ Hid (wr.ownsRow (w.heap.size + 2) 3 1 u (2 * k) ((rowL (2 * k) (altF x y)).map (Value.int .i64))) ∧ Hid (FrHas wr (w.heap.size + 1) 8 8 u) ∧ Hid (FrHas wr w.heap.size 0 0 (.slice none 0 0)) ∧ Ext w wr ∧ w.heap.size + 2 ≤ wr.heap.size) (fun iv _ => 32 - (intOf iv).toNat)
  case atStart => exact ⟨0, _, Nat.zero_le _, rfl, World.ownsRow_nil _ _ _ _, HV, HF, E1, hS⟩
  case round =>
    clear HV HF E1 hS
    obtain ⟨k, u, hk, rfl, HO, HV, HF, E1, hS⟩ := hrel
    obtain ⟨m, hm⟩ : ∃ m, m = 2 * k := ⟨_, rfl⟩
    have HM := Lib.hid hm
    have HO' : Hid (wr.ownsRow (w.heap.size + 2) 3 1 u m ((rowL (2 * k) (altF x y)).map (Value.int .i64))) := by rw [hm]; exact HO.out
    have hm64 : m ≤ 64 := by omega
    clear HO hm
    obtain ⟨ua, uc, rfl⟩ := own_slice HO'.out
    obtain ⟨⟨p0, p1, p2⟩, f0, f1, f2⟩ := HV.out
    by_cases hlt : k < 32
    · have HLR : Hid (Row (wr.alloc (.cells #[.int .i64 x, .int .i64 y] 3)) (.slice (some ⟨wr.heap.size, 0, none⟩) 2 2) 2 [.int .i64 x, .int .i64 y]) := by
        have := Row.of_owns (World.ownsRow_lit (e := 3) (base := wr.heap.size) (size := 1) wr #[.int .i64 x, .int .i64 y] 2 (Nat.le_refl _) (by unfold maxLen; omega) rfl)
        show Row _ _ _ _
        exact this
      have HOA := Lib.hid (own_ext HO'.out ((Ext.refl wr).alloc (.cells #[.int .i64 x, .int .i64 y] 3)))
      have AL : Ext wr (wr.alloc (.cells #[.int .i64 x, .int .i64 y] 3)) := (Ext.refl wr).alloc _
      have hSA : w.heap.size + 2 ≤ (wr.alloc (.cells #[.int .i64 x, .int .i64 y] 3)).heap.size := Nat.le_trans hS AL.size
      have HVA := Lib.hid (HV.out.ext AL)
      have HFA := Lib.hid (HF.out.ext AL)
      have E1A := E1.trans AL
      go_wp2_with (at_builtin; refine append_row rfl _ _ 22 rfl 3 i0 _ 1 8 Tryd.underlying22 hi hz0 hz1 hz2 rfl (by decide) _ m _ rfl HOA.out (.slice (some ⟨wr.heap.size, 0, none⟩) 2 2) 2 [.int .i64 x, .int .i64 y] rfl HLR.out rfl (by intro x hx; simp only [List.mem_cons, List.not_mem_nil, or_false] at hx; rcases hx with rfl | rfl <;> rfl) hSA (by unfold maxLen; omega) (by omega) ?_; intro v' w7 h1 h2 _; obtain ⟨va, vc, rfl⟩ := own_slice h1; have HV7 := HVA.out.under h2 (Nat.lt_succ_self _); have HF7 := Lib.hid (HFA.out.under h2 (by omega)); have HO7 := Lib.hid h1; have E7 : Ext w w7 := E1A.of_below h2 (by omega); have hS7 := Nat.le_trans hSA h2.size; have HVH := Lib.hid HV7; obtain ⟨⟨c0, c1, c2⟩, j0, j1, j2⟩ := HV7; clear h1 h2)
      go_roundw
      case rel =>
        have sb : Below (w.heap.size + 1) w7 (w7.setCell ⟨w.heap.size + 1, 2, none⟩ (.slice va (m + 2) vc)) := (Below.refl (w.heap.size + 1) w7).setCell (p := ⟨w.heap.size + 1, 2, none⟩) (Nat.le_refl _) _
        refine ⟨k + 1, .slice va (m + 2) vc, by omega, by go_num, ?_, HVH.out.set _, HF7.out.under sb (Nat.lt_succ_self _), E7.setCell (p := ⟨w.heap.size + 1, 2, none⟩) (Nat.le_succ _) _, Nat.le_trans hS7 sb.size⟩
        show World.ownsRow _ _ _ _ _ _ _
        rw [alt_two, show 2 * (k + 1) = m + 2 by have := HM.out; omega]
        exact row_setCell HO7.out _ _ (Nat.lt_succ_self _) _
      case measure => simp [intOf]; omega
    · obtain rfl : k = 32 := by omega
      obtain ⟨⟨q0, q1, q2⟩, g0, g1, g2⟩ := HF.out
      obtain rfl : m = 64 := HM.out
      have HO9 := Lib.hid (row_setCell (row_setCell (row_setCell HO'.out w.heap.size 0 (by omega) (.int .i64 8)) w.heap.size 1 (by omega) (.int .i64 8)) w.heap.size 2 (by omega) (.slice ua 64 uc))
      go_wp2
      obtain ⟨e0, e1, e2⟩ := fr_cells 8 8 (.slice ua 64 uc) q0 q1 q2
      exact bodyPost_ret (v := .agg #[.int .i64 8, .int .i64 8, .slice ua 64 uc]) (by simp [results, Tryd.results76, go_sem, e0, e1, e2]) rfl
        ⟨_, _, rfl, ((E1.setCell (p := ⟨w.heap.size, 0, none⟩) (Nat.le_refl _) _).setCell (p := ⟨w.heap.size, 1, none⟩) (Nat.le_refl _) _).setCell (p := ⟨w.heap.size, 2, none⟩) (Nat.le_refl _) _, Ints.of_row HO9.out (by omega)⟩
def H02 : List Int := rowL 64 (altF 0 2)
def H55 : List Int := rowL 64 (altF 5 5)
def L55 : List Fr := [(8, 8, H55), (8, 8, H55)]
theorem h02_facts : inAns 8 8 H02 = none ∧ inV 8 8 H02 = 64 := by decide +kernel
theorem l55_facts : wtAns L55 [(0, 2)] = none ∧ wtL L55 [(0, 2)] = [64, 64] := by decide +kernel
theorem nil17_facts : wtAns [] [] = range ∧ wtL [] [] = [] := by decide +kernel
theorem l55_small : ∀ (q : Nat) (f : Fr), L55[q]? = some f → f.2.2.length ≤ 1000000 := fun q f hq => by
  have hm := List.mem_of_getElem? hq
  unfold L55 at hm
  simp only [List.mem_cons, List.not_mem_nil, or_false] at hm
  rcases hm with rfl | rfl <;> (show H55.length ≤ _; unfold H55; rw [rowL_length]; decide)
theorem row_group (w : World) (F C : Int) : Row (w.alloc (.cells #[.int .i64 F, .int .i64 C] 69)) (.slice (some ⟨w.heap.size, 0, none⟩) 1 1) 1 (gcells [(F, C)]) :=
  Row.of_owns (World.ownsRow_lit (e := 69) (base := w.heap.size) (size := 2) w #[.int .i64 F, .int .i64 C] 1 (Nat.le_refl _) (by unfold maxLen; omega) rfl)
set_option maxRecDepth 20000 in
set_option maxHeartbeats 4000000 in
theorem first17_any (w : World) (hg : EtIs w) : Calls Tryd.prog 42 #[] w fun e w' => e = .returned (.bool true) ∧ Ext w w' := by
  have S1 := fun a n cap W h => inner_any 8 8 H02 a n cap W h
  have S2 := fun v u W (h : Fms W v L55) (k : Row W u 1 (gcells [(0, 2)])) => weights_any L55 [(0, 2)] v u W h k l55_small (by decide) (by decide)
  have S3 := fun W => weights_any [] [] (.slice none 0 0) (.slice none 0 0) W (Fms.nil W) (Row.nil W) (fun q f hq => by simp at hq) (by decide) (by decide)
  rw [h02_facts.1, h02_facts.2] at S1
  rw [l55_facts.1, l55_facts.2] at S2
  rw [nil17_facts.1, nil17_facts.2] at S3
  have H1 := Lib.hid S1
  have H2 := Lib.hid S2
  have H3 := Lib.hid S3
  clear S1 S2 S3
  go_enter Tryd.func42, Tryd.ntmps42
  go_wp2_with fail
  refine (half_any 0 2 _).mono ?_; rintro e w1 ⟨a1, c1, rfl, hx1, hz1⟩
  go_wp2_with fail
  refine (H1.out _ _ _ _ hz1).mono ?_; rintro e w2 ⟨x2, rfl, hx2, he2⟩
  obtain rfl : x2 = .nilIface := he2
  go_wp2_with fail
  refine (half_any 5 5 _).mono ?_; rintro e w3 ⟨a3, c3, rfl, hx3, hz3⟩
  go_wp2_with fail
  refine (half_any 5 5 _).mono ?_; rintro e w4 ⟨a4, c4, rfl, hx4, hz4⟩
  have E4 : Ext w w4 := (by repeat (first | exact Ext.refl _ | assumption | refine Ext.alloc ?_ _ | refine Ext.drew ?_ | refine Ext.drewN ?_ _ | refine Ext.setCell ?_ (by first | exact Nat.le_refl _ | (simp; done) | omega) _ | refine Ext.trans ?_ (by assumption)))
  have HL := Lib.hid (fms2 w4 8 8 8 8 a3 a4 64 64 c3 c4 H55 H55 (hz3.ext hx4).1 hz4.1)
  have A4 : Ext w4 (w4.alloc (.cells #[.int .i64 8, .int .i64 8, .slice a3 64 c3, .int .i64 8, .int .i64 8, .slice a4 64 c4] 24)) := (Ext.refl w4).alloc _
  have E5 := E4.trans A4
  clear hx1 hx2 hx3 hx4 hz1 hz3 hz4 E4 A4
  go_wp2_with fail
  have hsz : (w4.alloc (.cells #[.int .i64 8, .int .i64 8, .slice a3 64 c3, .int .i64 8, .int .i64 8, .slice a4 64 c4] 24)).heap.size = w4.heap.size + 1 := by simp
  rw [← hsz]
  clear hsz
  revert HL E5
  generalize w4.alloc (.cells #[.int .i64 8, .int .i64 8, .slice a3 64 c3, .int .i64 8, .int .i64 8, .slice a4 64 c4] 24) = w5
  intro HL E5
  have A5 : Ext w5 (w5.alloc (.cells #[.int .i64 0, .int .i64 2] 69)) := (Ext.refl w5).alloc _
  refine (H2.out _ _ _ (HL.out.ext A5) (row_group w5 0 2)).mono ?_; rintro e w6 ⟨u6, x6, rfl, hx6, hr6, he6⟩
  obtain rfl : x6 = .nilIface := he6
  obtain ⟨g6, o6, k6, rfl, -, -⟩ := hr6.addr (by decide)
  have HI6 := Lib.hid hr6
  have E6 := (E5.trans A5).trans hx6
  clear HL A5 hx6 E5 hr6
  go_wp2_with fail
  refine (H3.out _).mono ?_; rintro e w7 ⟨u7, x7, rfl, hx7, hr7, he7⟩
  have HE7 := Lib.hid he7
  have q0 : w7.cell? ⟨g6, o6, none⟩ = some (.int .i64 64) := hx7.cell (HI6.out.at (j := 0) (x := 64) rfl)
  have q1 := hx7.cell (HI6.out.at (j := 1) (x := 64) rfl)
  have E7 := E6.trans hx7
  clear hr7 he7 hx7 E6
  go_wp2_with fail
  refine (fail_any 3 _).mono ?_; rintro e w8 ⟨rfl, hx8⟩
  have E8 := E7.trans hx8
  go_wp2_with fail
  refine (same_fall range _ _ _ _ (hg.ext E8) (HE7.out.ext hx8) (RErrIs.code (by decide))).mono ?_; rintro e w9 ⟨rfl, hx9⟩
  go_wp2
  go_ret
  exact ⟨rfl, E8.trans hx9⟩
end Go.Proofs.YtmhbmegmlpenkaaDoor

/- kinlaw16.SceneUnlikes, SceneTurned: the walks. -/
namespace Go.Proofs.YtmhbmegmlpenkaaDoor
set_option linter.unusedVariables false
set_option linter.unusedSimpArgs false
open Go.RowKit Go.Extern.Stop Go.Stop Go.Extern

theorem pix_two {W H W' H' : Int} {xs ys : List Int} (h : pixB [(W, H, xs), (W', H', ys)] = true) : xs.length ≤ 20000 ∧ ys.length ≤ 20000 := by
  unfold pixB at h
  simp only [Bool.and_eq_true, decide_eq_true_eq] at h
  have h2 := h.2
  change (0 + min (((xs.length : Nat) : Int)) 20001 : Int) + min (((ys.length : Nat) : Int)) 20001 ≤ 20000 at h2
  omega
theorem sumV_comm2 (W H : Int) (xs : List Int) (W' H' : Int) (ys : List Int) : sumV W' H' ys W H xs = sumV W H xs W' H' ys := by
  unfold sumV
  rw [frAns_comm W' H' ys W H xs]
  cases h : frAns W H xs W' H' ys with
  | none => show sadF _ _ _ = sadF _ _ _; rw [sadF_comm, frAns_len h]
  | some f => rfl
theorem unlV_comm (W H : Int) (xs : List Int) (W' H' : Int) (ys : List Int) : unlV W' H' ys W H xs = unlV W H xs W' H' ys := by
  unfold unlV
  rw [frAns_comm W' H' ys W H xs, sumV_comm2]
  cases h : frAns W H xs W' H' ys with
  | none => obtain ⟨-, -, rfl, rfl⟩ := frAns_none h; rfl
  | some f => rfl
theorem unlV_self (W H : Int) (xs : List Int) : unlV W H xs W H xs = 0 := by
  unfold unlV
  cases h : frAns W H xs W H xs with
  | none =>
    have e : sumV W H xs W H xs = 0 := by
      unfold sumV
      rw [h]
      show sadF _ _ _ = 0
      rw [sadF_zero]
      intro j _
      rfl
    show Int.tdiv (64 * sumV W H xs W H xs) (W * H) = 0
    rw [e]
    simp
  | some f => rfl
theorem unlV_small (W H : Int) (xs : List Int) (W' H' : Int) (ys : List Int) : 0 ≤ unlV W H xs W' H' ys ∧ unlV W H xs W' H' ys ≤ 16320 := by
  unfold unlV
  cases h : frAns W H xs W' H' ys with
  | none =>
    obtain ⟨b1, b2, b3, b4⟩ := sum_small h
    exact unl_small b1 b2 b3
  | some f => show (0 : Int) ≤ 0 ∧ (0 : Int) ≤ 16320; omega
theorem frAns_self {W H : Int} {xs : List Int} {W' H' : Int} {ys : List Int} (h : frAns W H xs W' H' ys = none) : frAns W H xs W H xs = none := by
  obtain ⟨h1, -, -, -⟩ := frAns_none h
  unfold frAns
  rw [if_pos ⟨h1, h1⟩, if_pos ⟨rfl, rfl⟩]
end Go.Proofs.YtmhbmegmlpenkaaDoor

/- What is in a frame, and how unlike two are: plain. -/
namespace Go.Proofs.YtmhbmegmlpenkaaDoor
set_option linter.unusedVariables false
set_option linter.unusedSimpArgs false

theorem clampI_id {v n : Int} (h0 : 0 ≤ v) (h1 : v < n) : clampI v n = v := by unfold clampI; omega
theorem sq_at {W H : Int} {zs : List Int} {m p i j a b : Nat} (hW : W = 8 * (m : Int)) (hH : H = 8 * (p : Int)) (hi : i < m) (hj : j < p) (ha : a < 8) (hb : b < 8) :
    sqF W H zs i j (b * 8 + a) = zs.getD ((j * 8 + b) * (m * 8) + (i * 8 + a)) 0 := by
  unfold sqF
  rw [get_at W H zs _ _ b ha]
  unfold atV
  rw [clampI_id (by omega) (by omega), clampI_id (by omega) (by omega)]
  congr 1
  have e : (8 * (j : Int) + (b : Int)) * W + (8 * (i : Int) + (a : Int)) = (((j * 8 + b) * (m * 8) + (i * 8 + a) : Nat) : Int) := by
    push_cast
    rw [hW, Int.mul_comm 8 (j : Int), Int.mul_comm 8 (m : Int), Int.mul_comm 8 (i : Int)]
  rw [e]
  exact Int.toNat_natCast _
/-- all squares together are the whole frame -/
theorem blk_whole {W H : Int} {xs ys : List Int} {m p : Nat} (hW : W = 8 * (m : Int)) (hH : H = 8 * (p : Int)) (hm : 1 ≤ m) :
    blkF (fun i j => sadF (sqF W H xs i j) (sqF W H ys i j) 64) m (m * p) = sadF (fun q => xs.getD q 0) (fun q => ys.getD q 0) ((p * 8) * (m * 8)) := by
  rw [blkF_sum, sadF_sum, Nat.mul_comm m p, sumF_mul, sumF_mul, sumF_mul]
  refine sumF_congr fun j hj => ?_
  have e1 : sumF (fun i => (fun q => (fun i j => sadF (sqF W H xs i j) (sqF W H ys i j) 64) (q % m) (q / m)) (j * m + i)) m = sumF (fun i => sumF (fun b => sumF (fun a => max (xs.getD ((j * 8 + b) * (m * 8) + (i * 8 + a)) 0 - ys.getD ((j * 8 + b) * (m * 8) + (i * 8 + a)) 0) (ys.getD ((j * 8 + b) * (m * 8) + (i * 8 + a)) 0 - xs.getD ((j * 8 + b) * (m * 8) + (i * 8 + a)) 0)) 8) 8) m := by
    refine sumF_congr fun i hi => ?_
    have h1 : (j * m + i) % m = i := by rw [Nat.add_comm, Nat.add_mul_mod_self_right, Nat.mod_eq_of_lt hi]
    have h2 : (j * m + i) / m = j := by rw [Nat.add_comm, Nat.add_mul_div_right _ _ (by omega), Nat.div_eq_of_lt hi, Nat.zero_add]
    show sadF (sqF W H xs ((j * m + i) % m) ((j * m + i) / m)) (sqF W H ys ((j * m + i) % m) ((j * m + i) / m)) (8 * 8) = _
    rw [h1, h2, sadF_sum, sumF_mul]
    exact sumF_congr fun b hb => sumF_congr fun a ha => by rw [sq_at hW hH hi hj ha hb, sq_at hW hH hi hj ha hb]
  rw [e1, sumF_swap]
  refine sumF_congr fun b hb => ?_
  rw [sumF_mul]
theorem blkF_le {v u : Nat → Nat → Int} {m k : Nat} (h : ∀ i j, v i j ≤ u i j) : blkF v m k ≤ blkF u m k := by
  rw [blkF_sum, blkF_sum]
  exact sumF_le fun q _ => h _ _
theorem ouV_le_in (W H : Int) (xs : List Int) (W' H' : Int) (ys : List Int) : ouV W H xs W' H' ys ≤ inV W H xs := by
  unfold ouV
  split
  · rename_i h
    obtain ⟨hm, -⟩ := frAns_none h
    unfold inV
    rw [if_pos hm]
    exact blkF_le fun i j => by unfold outV innV; omega
  · exact (inV_in W H xs).1
theorem ouV_le_sum (W H : Int) (xs : List Int) (W' H' : Int) (ys : List Int) : ouV W H xs W' H' ys ≤ sumV W H xs W' H' ys := by
  unfold ouV sumV
  cases h : frAns W H xs W' H' ys with
  | some f => exact Int.le_refl _
  | none =>
    obtain ⟨hm, -, rfl, rfl⟩ := frAns_none h
    obtain ⟨m, p, hW, hH, h1, h2, h3, h4, e1, e2⟩ := may_sides hm
    show blkF _ _ _ ≤ sadF _ _ _
    have hl : xs.length = (p * 8) * (m * 8) := by
      have := hm.2.2.1
      rw [hW, hH] at this
      have e : (8 * (m : Int)) * (8 * (p : Int)) = (((p * 8) * (m * 8) : Nat) : Int) := by
        push_cast
        rw [Int.mul_comm 8 (m : Int), Int.mul_comm 8 (p : Int), Int.mul_comm]
      omega
    rw [e1, e2, hl, ← blk_whole hW hH h1]
    exact blkF_le fun i j => by unfold outV; omega
theorem sadF_self (f : Nat → Int) (k : Nat) : sadF f f k = 0 := (sadF_zero f f k).2 fun _ _ => rfl
theorem blkF_zero {v : Nat → Nat → Int} (h : ∀ i j, v i j = 0) (m k : Nat) : blkF v m k = 0 := by
  induction k with
  | zero => rfl
  | succ k ih => unfold blkF; rw [ih, h]; rfl
theorem ouV_self (W H : Int) (xs : List Int) : ouV W H xs W H xs = 0 := by
  unfold ouV
  split
  · rename_i h
    obtain ⟨hm, -⟩ := frAns_none h
    refine blkF_zero (fun i j => ?_) _ _
    unfold outV
    rw [sadF_self]
    have := (actF_in (sqF_in hm i j)).1
    omega
  · rfl
theorem actF_flat {f : Nat → Int} {x : Int} (h : ∀ j, f j = x) : actF f = 0 := by
  have hs : ∀ k, sumF f k = x * k := fun k => by
    induction k with
    | zero => simp [sumF]
    | succ k ih => unfold sumF; rw [ih, h]; push_cast; rw [Int.mul_add]; omega
  have hm : meanF f = x := by unfold meanF; rw [hs]; omega
  unfold actF
  rw [hm]
  exact (sadF_zero f (fun _ => x) 64).2 fun j _ => h j
theorem inV_flat {W H x : Int} {xs : List Int} (h : within x x xs) : inV W H xs = 0 := by
  unfold inV
  split
  · rename_i hm
    refine blkF_zero (fun i j => actF_flat (x := x) fun k => ?_) _ _
    unfold sqF getF atV
    obtain ⟨q, e, hq, -⟩ := at_place hm (8 * (i : Int) + ((k % 8 : Nat) : Int)) (8 * (j : Int) + ((k / 8 : Nat) : Int))
    rw [e]
    have := h.at (get_of_lt hq)
    simp only [Int.toNat_natCast]
    omega
  · rfl
theorem inAns_fr (W H : Int) (xs : List Int) : frAns W H xs W H xs = inAns W H xs := by
  unfold frAns inAns
  by_cases h : may W H xs
  · rw [if_pos ⟨h, h⟩, if_pos ⟨rfl, rfl⟩, if_pos h]
  · rw [if_neg (fun e => h e.1), if_neg h]
end Go.Proofs.YtmhbmegmlpenkaaDoor

/- kinlaw17.StatsTells, StatsFlat: the walks. Made by tools/mktl.py. -/
namespace Go.Proofs.YtmhbmegmlpenkaaDoor
set_option linter.unusedVariables false
set_option linter.unusedSimpArgs false
open Go.RowKit Go.Extern.Stop Go.Stop Go.Extern

set_option maxHeartbeats 2000000 in
set_option maxRecDepth 20000 in
theorem tel_long (W H W' H' : Int) (xs ys : List Int) (a b : Option Addr) (n m ca cb : Nat) (w : World) (hg : EtIs w) (ra : Row w (.slice a n ca) xs.length (xs.map (Value.int .i64))) (rb : Row w (.slice b m cb) ys.length (ys.map (Value.int .i64))) (hpb : pixB [(W, H, xs), (W', H', ys)] = false) :
    Calls Tryd.prog 11 #[.agg #[.int .i64 W, .int .i64 H, .slice a n ca], .agg #[.int .i64 W', .int .i64 H', .slice b m cb]] w fun e w' => e = .returned (.bool true) ∧ Ext w w' := by
  have HB0 := Lib.hid (FrBox.two w W H W' H' (.slice a n ca) (.slice b m cb))
  have EB : Ext w ((w.alloc (.cells #[.int .i64 W, .int .i64 H, .slice a n ca] 24)).alloc (.cells #[.int .i64 W', .int .i64 H', .slice b m cb] 24)) := (by repeat (first | exact Ext.refl _ | assumption | refine Ext.alloc ?_ _ | refine Ext.drew ?_ | refine Ext.drewN ?_ _ | refine Ext.setCell ?_ (by first | exact Nat.le_refl _ | (simp; done) | omega) _ | refine Ext.trans ?_ (by assumption)))
  go_enter Tryd.func11, Tryd.ntmps11
  go_wp2_with fail
  revert HB0 EB
  generalize (w.alloc (.cells #[.int .i64 W, .int .i64 H, .slice a n ca] 24)).alloc (.cells #[.int .i64 W', .int .i64 H', .slice b m cb] 24) = w0
  intro HB0 EB
  refine (first17_any _ (hg.ext EB)).mono ?_; rintro e w1 ⟨rfl, hx1⟩
  have F1 := Lib.hid (HB0.out.1.ext hx1)
  have G1 := Lib.hid (HB0.out.2.ext hx1)
  have E1 := EB.trans hx1
  clear HB0
  obtain ⟨p0, p1, p2⟩ := F1.out
  obtain ⟨q0, q1, q2⟩ := G1.out
  have HFM := fms2 w1 W H W' H' a b n m ca cb xs ys (ra.ext E1) (rb.ext E1)
  go_wp2_with fail
  refine (pix_any _ _ _ HFM (by simp)).mono ?_; rintro e w2 ⟨rfl, hx2⟩
  have A1 : Ext w1 (w1.alloc (.cells #[.int .i64 W, .int .i64 H, .slice a n ca, .int .i64 W', .int .i64 H', .slice b m cb] 24)) := (Ext.refl w1).alloc _
  have E2 := E1.trans (A1.trans hx2)
  have F2 := Lib.hid (F1.out.ext (A1.trans hx2))
  have G2 := Lib.hid (G1.out.ext (A1.trans hx2))
  rw [hpb]
  clear F1 G1 p0 p1 p2 q0 q1 q2 HFM A1 hx2 hx1 EB E1
  obtain ⟨p0, p1, p2⟩ := F2.out
  obtain ⟨q0, q1, q2⟩ := G2.out
  go_wp2_with fail
  refine (first17_any _ (hg.ext E2)).mono ?_; rintro e w9 ⟨rfl, hx9⟩
  go_wp2
  go_ret
  exact ⟨rfl, E2.trans hx9⟩
set_option maxHeartbeats 2000000 in
set_option maxRecDepth 20000 in
theorem fla_long (W H W' H' : Int) (xs ys : List Int) (a b : Option Addr) (n m ca cb : Nat) (w : World) (hg : EtIs w) (ra : Row w (.slice a n ca) xs.length (xs.map (Value.int .i64))) (rb : Row w (.slice b m cb) ys.length (ys.map (Value.int .i64))) (hpb : pixB [(W, H, xs), (W', H', ys)] = false) :
    Calls Tryd.prog 15 #[.agg #[.int .i64 W, .int .i64 H, .slice a n ca], .agg #[.int .i64 W', .int .i64 H', .slice b m cb]] w fun e w' => e = .returned (.bool true) ∧ Ext w w' := by
  have HB0 := Lib.hid (FrBox.two w W H W' H' (.slice a n ca) (.slice b m cb))
  have EB : Ext w ((w.alloc (.cells #[.int .i64 W, .int .i64 H, .slice a n ca] 24)).alloc (.cells #[.int .i64 W', .int .i64 H', .slice b m cb] 24)) := (by repeat (first | exact Ext.refl _ | assumption | refine Ext.alloc ?_ _ | refine Ext.drew ?_ | refine Ext.drewN ?_ _ | refine Ext.setCell ?_ (by first | exact Nat.le_refl _ | (simp; done) | omega) _ | refine Ext.trans ?_ (by assumption)))
  go_enter Tryd.func15, Tryd.ntmps15
  go_wp2_with fail
  revert HB0 EB
  generalize (w.alloc (.cells #[.int .i64 W, .int .i64 H, .slice a n ca] 24)).alloc (.cells #[.int .i64 W', .int .i64 H', .slice b m cb] 24) = w0
  intro HB0 EB
  refine (first17_any _ (hg.ext EB)).mono ?_; rintro e w1 ⟨rfl, hx1⟩
  have F1 := Lib.hid (HB0.out.1.ext hx1)
  have G1 := Lib.hid (HB0.out.2.ext hx1)
  have E1 := EB.trans hx1
  clear HB0
  obtain ⟨p0, p1, p2⟩ := F1.out
  obtain ⟨q0, q1, q2⟩ := G1.out
  have HFM := fms2 w1 W H W' H' a b n m ca cb xs ys (ra.ext E1) (rb.ext E1)
  go_wp2_with fail
  refine (pix_any _ _ _ HFM (by simp)).mono ?_; rintro e w2 ⟨rfl, hx2⟩
  have A1 : Ext w1 (w1.alloc (.cells #[.int .i64 W, .int .i64 H, .slice a n ca, .int .i64 W', .int .i64 H', .slice b m cb] 24)) := (Ext.refl w1).alloc _
  have E2 := E1.trans (A1.trans hx2)
  have F2 := Lib.hid (F1.out.ext (A1.trans hx2))
  have G2 := Lib.hid (G1.out.ext (A1.trans hx2))
  rw [hpb]
  clear F1 G1 p0 p1 p2 q0 q1 q2 HFM A1 hx2 hx1 EB E1
  obtain ⟨p0, p1, p2⟩ := F2.out
  obtain ⟨q0, q1, q2⟩ := G2.out
  go_wp2_with fail
  refine (first17_any _ (hg.ext E2)).mono ?_; rintro e w9 ⟨rfl, hx9⟩
  go_wp2
  go_ret
  exact ⟨rfl, E2.trans hx9⟩
set_option maxHeartbeats 4000000 in
set_option maxRecDepth 20000 in
theorem tel_walk (W H W' H' : Int) (xs ys : List Int) (a b : Option Addr) (n m ca cb : Nat) (w : World) (hg : EtIs w) (ra : Row w (.slice a n ca) xs.length (xs.map (Value.int .i64))) (rb : Row w (.slice b m cb) ys.length (ys.map (Value.int .i64))) (N K : Int) (f g : Fall) (hpb : pixB [(W, H, xs), (W', H', ys)] = true)
    (c1 : Hid (∀ w, Row w (.slice a n ca) xs.length (xs.map (Value.int .i64)) → Calls Tryd.prog 43 #[.agg #[.int .i64 W, .int .i64 H, .slice a n ca]] w (IPost w N f)))
    (c2 : Hid (∀ w, Row w (.slice a n ca) xs.length (xs.map (Value.int .i64)) → Calls Tryd.prog 44 #[.agg #[.int .i64 W, .int .i64 H, .slice a n ca]] w (RIPost w N f)))
    (c3 : Hid (∀ w, Row w (.slice a n ca) xs.length (xs.map (Value.int .i64)) → Row w (.slice b m cb) ys.length (ys.map (Value.int .i64)) → Calls Tryd.prog 45 #[.agg #[.int .i64 W, .int .i64 H, .slice a n ca], .agg #[.int .i64 W', .int .i64 H', .slice b m cb]] w (IPost w K g)))
    (c4 : Hid (∀ w, Row w (.slice a n ca) xs.length (xs.map (Value.int .i64)) → Row w (.slice b m cb) ys.length (ys.map (Value.int .i64)) → Calls Tryd.prog 46 #[.agg #[.int .i64 W, .int .i64 H, .slice a n ca], .agg #[.int .i64 W', .int .i64 H', .slice b m cb]] w (RIPost w K g))) :
    Calls Tryd.prog 11 #[.agg #[.int .i64 W, .int .i64 H, .slice a n ca], .agg #[.int .i64 W', .int .i64 H', .slice b m cb]] w fun e w' => e = .returned (.bool true) ∧ Ext w w' := by
  have HB0 := Lib.hid (FrBox.two w W H W' H' (.slice a n ca) (.slice b m cb))
  have EB : Ext w ((w.alloc (.cells #[.int .i64 W, .int .i64 H, .slice a n ca] 24)).alloc (.cells #[.int .i64 W', .int .i64 H', .slice b m cb] 24)) := (by repeat (first | exact Ext.refl _ | assumption | refine Ext.alloc ?_ _ | refine Ext.drew ?_ | refine Ext.drewN ?_ _ | refine Ext.setCell ?_ (by first | exact Nat.le_refl _ | (simp; done) | omega) _ | refine Ext.trans ?_ (by assumption)))
  go_enter Tryd.func11, Tryd.ntmps11
  go_wp2_with fail
  revert HB0 EB
  generalize (w.alloc (.cells #[.int .i64 W, .int .i64 H, .slice a n ca] 24)).alloc (.cells #[.int .i64 W', .int .i64 H', .slice b m cb] 24) = w0
  intro HB0 EB
  refine (first17_any _ (hg.ext EB)).mono ?_; rintro e w1 ⟨rfl, hx1⟩
  have F1 := Lib.hid (HB0.out.1.ext hx1)
  have G1 := Lib.hid (HB0.out.2.ext hx1)
  have E1 := EB.trans hx1
  clear HB0
  obtain ⟨p0, p1, p2⟩ := F1.out
  obtain ⟨q0, q1, q2⟩ := G1.out
  have HFM := fms2 w1 W H W' H' a b n m ca cb xs ys (ra.ext E1) (rb.ext E1)
  go_wp2_with fail
  refine (pix_any _ _ _ HFM (by simp)).mono ?_; rintro e w2 ⟨rfl, hx2⟩
  have A1 : Ext w1 (w1.alloc (.cells #[.int .i64 W, .int .i64 H, .slice a n ca, .int .i64 W', .int .i64 H', .slice b m cb] 24)) := (Ext.refl w1).alloc _
  have E2 := E1.trans (A1.trans hx2)
  have F2 := Lib.hid (F1.out.ext (A1.trans hx2))
  have G2 := Lib.hid (G1.out.ext (A1.trans hx2))
  rw [hpb]
  clear F1 G1 p0 p1 p2 q0 q1 q2 HFM A1 hx2 hx1 EB E1
  obtain ⟨p0, p1, p2⟩ := F2.out
  obtain ⟨q0, q1, q2⟩ := G2.out
  go_wp2_with fail
  refine (c1.out _ (ra.ext E2)).mono ?_; rintro e w3 ⟨x3, rfl, hx3, he3⟩
  have F3 := Lib.hid (F2.out.ext hx3)
  have G3 := Lib.hid (G2.out.ext hx3)
  have E3 := E2.trans hx3
  clear F2 G2 p0 p1 p2 q0 q1 q2
  obtain ⟨p0, p1, p2⟩ := F3.out
  obtain ⟨q0, q1, q2⟩ := G3.out
  go_wp2_with fail
  refine (c2.out _ (ra.ext E3)).mono ?_; rintro e w4 ⟨c, d, i, j, rfl, hx4, he4⟩
  have A4 : Ext w4 (w4.alloc (.cells #[.int .i64 c, .slice d i j] 41)) := (Ext.refl w4).alloc _
  have EA4 := Lib.hid (EAt.new w4 c (.slice d i j) rfl)
  have he4 := he4.ext A4
  have F4 := Lib.hid (F3.out.ext (hx4.trans A4))
  have G4 := Lib.hid (G3.out.ext (hx4.trans A4))
  have he3 := he3.ext (hx4.trans A4)
  have E4 := (E3.trans hx4).trans A4
  clear p0 p1 p2 q0 q1 q2 F3 G3 hx4 A4
  obtain ⟨p0, p1, p2⟩ := F4.out
  obtain ⟨q0, q1, q2⟩ := G4.out
  go_wp2_with fail
  clear p0 p1 p2 q0 q1 q2
  revert EA4 he4 F4 G4 he3 E4
  generalize w4.alloc (.cells #[.int .i64 c, .slice d i j] 41) = w5
  intro EA4 he4 F4 G4 he3 E4
  refine (c3.out _ (ra.ext E4) (rb.ext E4)).mono ?_; rintro e w6 ⟨x6, rfl, hx6, he6⟩
  have F6 := Lib.hid (F4.out.ext hx6)
  have G6 := Lib.hid (G4.out.ext hx6)
  have E6 := E4.trans hx6
  have EA6 := Lib.hid (EA4.out.ext hx6)
  have he4 := he4.ext hx6
  have he3 := he3.ext hx6
  clear F4 G4 EA4 E4 hx6
  obtain ⟨p0, p1, p2⟩ := F6.out
  obtain ⟨q0, q1, q2⟩ := G6.out
  go_wp2_with fail
  refine (c4.out _ (ra.ext E6) (rb.ext E6)).mono ?_; rintro e w7 ⟨c', d', i', j', rfl, hx7, he7⟩
  have A7 : Ext w7 (w7.alloc (.cells #[.int .i64 c', .slice d' i' j'] 41)) := (Ext.refl w7).alloc _
  have EB7 := Lib.hid (EAt.new w7 c' (.slice d' i' j') rfl)
  have he7 := he7.ext A7
  have EA7 := Lib.hid (EA6.out.ext (hx7.trans A7))
  have he6 := he6.ext (hx7.trans A7)
  have he4 := he4.ext (hx7.trans A7)
  have he3 := he3.ext (hx7.trans A7)
  have E7 := (E6.trans hx7).trans A7
  clear p0 p1 p2 q0 q1 q2 F6 G6 hx7 A7 E6 EA6
  go_wp2_with fail
  revert EB7 he7 EA7 he6 he4 he3 E7
  generalize w7.alloc (.cells #[.int .i64 c', .slice d' i' j'] 41) = w8
  intro EB7 he7 EA7 he6 he4 he3 E7
  refine (first17_any _ (hg.ext E7)).mono ?_; rintro e w9 ⟨rfl, hx9⟩
  obtain ⟨⟨s0, s1, -, -⟩, -⟩ := EA7.out.ext hx9
  go_wp2_with fail
  refine (same_fall f _ _ _ _ (hg.ext (E7.trans hx9)) (he3.ext hx9) (he4.ext hx9)).mono ?_; rintro e wA ⟨rfl, hxA⟩
  clear s0 s1
  obtain ⟨⟨s0, s1, -, -⟩, -⟩ := EB7.out.ext (hx9.trans hxA)
  go_wp2_with fail
  refine (same_fall g _ _ _ _ (hg.ext ((E7.trans hx9).trans hxA)) (he6.ext (hx9.trans hxA)) (he7.ext (hx9.trans hxA))).mono ?_; rintro e wB ⟨rfl, hxB⟩
  go_wp2
  go_ret
  exact ⟨rfl, ((E7.trans hx9).trans hxA).trans hxB⟩
theorem tel_law (W H W' H' : Int) (xs ys : List Int) (va vb : Value) (w : World) (hg : EtIs w) (ra : Row w va xs.length (xs.map (Value.int .i64))) (rb : Row w vb ys.length (ys.map (Value.int .i64))) :
    Calls Tryd.prog 11 #[.agg #[.int .i64 W, .int .i64 H, va], .agg #[.int .i64 W', .int .i64 H', vb]] w fun e w' => e = .returned (.bool true) ∧ Ext w w' := by
  obtain ⟨a, ca, rfl⟩ := ra.form
  obtain ⟨b, cb, rfl⟩ := rb.form
  cases hp : pixB [(W, H, xs), (W', H', ys)] with
  | false => exact tel_long W H W' H' xs ys a b _ _ ca cb w hg ra rb hp
  | true =>
    obtain ⟨l1, l2⟩ := pix_two hp
    have l1' := Nat.le_trans l1 (show 20000 ≤ 4611686018427387903 by decide)
    have l2' := Nat.le_trans l2 (show 20000 ≤ 4611686018427387903 by decide)
    exact tel_walk W H W' H' xs ys a b _ _ ca cb w hg ra rb (inV W H xs) (ouV W H xs W' H' ys) (inAns W H xs) (frAns W H xs W' H' ys) hp
      (fun w k1 => inner_any W H xs a _ ca w ⟨k1, l1'⟩) (fun w k1 => rinner_any W H xs a _ ca w ⟨k1, l1'⟩)
      (fun w k1 k2 => outer_any W H W' H' xs ys a b _ _ ca cb w ⟨k1, l1'⟩ ⟨k2, l2'⟩) (fun w k1 k2 => router_any W H W' H' xs ys a b _ _ ca cb w ⟨k1, l1'⟩ ⟨k2, l2'⟩)
set_option maxHeartbeats 4000000 in
set_option maxRecDepth 20000 in
theorem fla_no (W H W' H' : Int) (xs ys : List Int) (a b : Option Addr) (n m ca cb : Nat) (w : World) (hg : EtIs w) (ra : Row w (.slice a n ca) xs.length (xs.map (Value.int .i64))) (rb : Row w (.slice b m cb) ys.length (ys.map (Value.int .i64))) (f : List (ByteArray × Int) × Int) (hpb : pixB [(W, H, xs), (W', H', ys)] = true)
    (c1 : Hid (∀ w, Row w (.slice a n ca) xs.length (xs.map (Value.int .i64)) → Calls Tryd.prog 43 #[.agg #[.int .i64 W, .int .i64 H, .slice a n ca]] w (IPost w 0 (some f))))
    (c2 : Hid (∀ w, Row w (.slice a n ca) xs.length (xs.map (Value.int .i64)) → Calls Tryd.prog 45 #[.agg #[.int .i64 W, .int .i64 H, .slice a n ca], .agg #[.int .i64 W, .int .i64 H, .slice a n ca]] w (IPost w 0 (some f)))) :
    Calls Tryd.prog 15 #[.agg #[.int .i64 W, .int .i64 H, .slice a n ca], .agg #[.int .i64 W', .int .i64 H', .slice b m cb]] w fun e w' => e = .returned (.bool true) ∧ Ext w w' := by
  have HB0 := Lib.hid (FrBox.two w W H W' H' (.slice a n ca) (.slice b m cb))
  have EB : Ext w ((w.alloc (.cells #[.int .i64 W, .int .i64 H, .slice a n ca] 24)).alloc (.cells #[.int .i64 W', .int .i64 H', .slice b m cb] 24)) := (by repeat (first | exact Ext.refl _ | assumption | refine Ext.alloc ?_ _ | refine Ext.drew ?_ | refine Ext.drewN ?_ _ | refine Ext.setCell ?_ (by first | exact Nat.le_refl _ | (simp; done) | omega) _ | refine Ext.trans ?_ (by assumption)))
  go_enter Tryd.func15, Tryd.ntmps15
  go_wp2_with fail
  revert HB0 EB
  generalize (w.alloc (.cells #[.int .i64 W, .int .i64 H, .slice a n ca] 24)).alloc (.cells #[.int .i64 W', .int .i64 H', .slice b m cb] 24) = w0
  intro HB0 EB
  refine (first17_any _ (hg.ext EB)).mono ?_; rintro e w1 ⟨rfl, hx1⟩
  have F1 := Lib.hid (HB0.out.1.ext hx1)
  have G1 := Lib.hid (HB0.out.2.ext hx1)
  have E1 := EB.trans hx1
  clear HB0
  obtain ⟨p0, p1, p2⟩ := F1.out
  obtain ⟨q0, q1, q2⟩ := G1.out
  have HFM := fms2 w1 W H W' H' a b n m ca cb xs ys (ra.ext E1) (rb.ext E1)
  go_wp2_with fail
  refine (pix_any _ _ _ HFM (by simp)).mono ?_; rintro e w2 ⟨rfl, hx2⟩
  have A1 : Ext w1 (w1.alloc (.cells #[.int .i64 W, .int .i64 H, .slice a n ca, .int .i64 W', .int .i64 H', .slice b m cb] 24)) := (Ext.refl w1).alloc _
  have E2 := E1.trans (A1.trans hx2)
  have F2 := Lib.hid (F1.out.ext (A1.trans hx2))
  have G2 := Lib.hid (G1.out.ext (A1.trans hx2))
  rw [hpb]
  clear F1 G1 p0 p1 p2 q0 q1 q2 HFM A1 hx2 hx1 EB E1
  obtain ⟨p0, p1, p2⟩ := F2.out
  obtain ⟨q0, q1, q2⟩ := G2.out
  go_wp2_with fail
  refine (c1.out _ (ra.ext E2)).mono ?_; rintro e w3 ⟨x3, rfl, hx3, he3⟩
  have F3 := Lib.hid (F2.out.ext hx3)
  have G3 := Lib.hid (G2.out.ext hx3)
  have E3 := E2.trans hx3
  clear F2 G2 p0 p1 p2 q0 q1 q2
  obtain ⟨p0, p1, p2⟩ := F3.out
  obtain ⟨q0, q1, q2⟩ := G3.out
  go_wp2_with fail
  refine (c2.out _ (ra.ext E3)).mono ?_; rintro e w4 ⟨x4, rfl, hx4, he4⟩
  have F4 := Lib.hid (F3.out.ext hx4)
  have G4 := Lib.hid (G3.out.ext hx4)
  have E4 := E3.trans hx4
  have he3 := he3.ext hx4
  clear F3 G3 p0 p1 p2 q0 q1 q2 hx4 E3
  obtain ⟨p0, p1, p2⟩ := F4.out
  obtain ⟨q0, q1, q2⟩ := G4.out
  obtain ⟨t3, y3, rfl⟩ := he3.ne
  obtain ⟨t4, y4, rfl⟩ := he4.ne
  go_wp2_with fail
  refine (first17_any _ (hg.ext E4)).mono ?_; rintro e w9 ⟨rfl, hx9⟩
  go_wp2
  go_ret
  exact ⟨rfl, E4.trans hx9⟩
set_option maxHeartbeats 8000000 in
set_option maxRecDepth 20000 in
theorem fla_walk (W H W' H' : Int) (xs ys : List Int) (a b : Option Addr) (n m ca cb : Nat) (w : World) (hg : EtIs w) (ra : Row w (.slice a n ca) xs.length (xs.map (Value.int .i64))) (rb : Row w (.slice b m cb) ys.length (ys.map (Value.int .i64))) (N M S x0 : Int) (bo : Bool) (f : Fall) (hpb : pixB [(W, H, xs), (W', H', ys)] = true) (hn : 1 ≤ n) (b1 : 0 ≤ N) (b2 : 0 ≤ M) (b3 : M ≤ N) (b4 : M ≤ S) (b5 : bo = true → N = 0)
    (hx0 : Hid (xs[0]? = some x0))
    (c1 : Hid (∀ w, Row w (.slice a n ca) xs.length (xs.map (Value.int .i64)) → Calls Tryd.prog 43 #[.agg #[.int .i64 W, .int .i64 H, .slice a n ca]] w (IPost w N none)))
    (c2 : Hid (∀ w, Row w (.slice a n ca) xs.length (xs.map (Value.int .i64)) → Calls Tryd.prog 45 #[.agg #[.int .i64 W, .int .i64 H, .slice a n ca], .agg #[.int .i64 W, .int .i64 H, .slice a n ca]] w (IPost w 0 none)))
    (c3 : Hid (∀ w, Row w (.slice a n ca) xs.length (xs.map (Value.int .i64)) → Row w (.slice b m cb) ys.length (ys.map (Value.int .i64)) → Calls Tryd.prog 45 #[.agg #[.int .i64 W, .int .i64 H, .slice a n ca], .agg #[.int .i64 W', .int .i64 H', .slice b m cb]] w (IPost w M f)))
    (c4 : Hid (∀ w, Row w (.slice a n ca) xs.length (xs.map (Value.int .i64)) → Row w (.slice b m cb) ys.length (ys.map (Value.int .i64)) → Calls Tryd.prog 49 #[.agg #[.int .i64 W, .int .i64 H, .slice a n ca], .agg #[.int .i64 W', .int .i64 H', .slice b m cb]] w (IPost w S f)))
    (c5 : Hid (∀ w, Row w (.slice a n ca) xs.length (xs.map (Value.int .i64)) → Calls Tryd.prog 31 #[.slice a n ca, .int .i64 x0, .int .i64 x0] w fun e w' => e = .returned (.bool bo) ∧ Ext w w')) :
    Calls Tryd.prog 15 #[.agg #[.int .i64 W, .int .i64 H, .slice a n ca], .agg #[.int .i64 W', .int .i64 H', .slice b m cb]] w fun e w' => e = .returned (.bool true) ∧ Ext w w' := by
  have HB0 := Lib.hid (FrBox.two w W H W' H' (.slice a n ca) (.slice b m cb))
  have EB : Ext w ((w.alloc (.cells #[.int .i64 W, .int .i64 H, .slice a n ca] 24)).alloc (.cells #[.int .i64 W', .int .i64 H', .slice b m cb] 24)) := (by repeat (first | exact Ext.refl _ | assumption | refine Ext.alloc ?_ _ | refine Ext.drew ?_ | refine Ext.drewN ?_ _ | refine Ext.setCell ?_ (by first | exact Nat.le_refl _ | (simp; done) | omega) _ | refine Ext.trans ?_ (by assumption)))
  go_enter Tryd.func15, Tryd.ntmps15
  go_wp2_with fail
  revert HB0 EB
  generalize (w.alloc (.cells #[.int .i64 W, .int .i64 H, .slice a n ca] 24)).alloc (.cells #[.int .i64 W', .int .i64 H', .slice b m cb] 24) = w0
  intro HB0 EB
  refine (first17_any _ (hg.ext EB)).mono ?_; rintro e w1 ⟨rfl, hx1⟩
  have F1 := Lib.hid (HB0.out.1.ext hx1)
  have G1 := Lib.hid (HB0.out.2.ext hx1)
  have E1 := EB.trans hx1
  clear HB0
  obtain ⟨p0, p1, p2⟩ := F1.out
  obtain ⟨q0, q1, q2⟩ := G1.out
  have HFM := fms2 w1 W H W' H' a b n m ca cb xs ys (ra.ext E1) (rb.ext E1)
  go_wp2_with fail
  refine (pix_any _ _ _ HFM (by simp)).mono ?_; rintro e w2 ⟨rfl, hx2⟩
  have A1 : Ext w1 (w1.alloc (.cells #[.int .i64 W, .int .i64 H, .slice a n ca, .int .i64 W', .int .i64 H', .slice b m cb] 24)) := (Ext.refl w1).alloc _
  have E2 := E1.trans (A1.trans hx2)
  have F2 := Lib.hid (F1.out.ext (A1.trans hx2))
  have G2 := Lib.hid (G1.out.ext (A1.trans hx2))
  rw [hpb]
  clear F1 G1 p0 p1 p2 q0 q1 q2 HFM A1 hx2 hx1 EB E1
  obtain ⟨p0, p1, p2⟩ := F2.out
  obtain ⟨q0, q1, q2⟩ := G2.out
  go_wp2_with fail
  refine (c1.out _ (ra.ext E2)).mono ?_; rintro e w3 ⟨x3, rfl, hx3, he3⟩
  have F3 := Lib.hid (F2.out.ext hx3)
  have G3 := Lib.hid (G2.out.ext hx3)
  have E3 := E2.trans hx3
  clear F2 G2 p0 p1 p2 q0 q1 q2
  obtain ⟨p0, p1, p2⟩ := F3.out
  obtain ⟨q0, q1, q2⟩ := G3.out
  go_wp2_with fail
  refine (c2.out _ (ra.ext E3)).mono ?_; rintro e w4 ⟨x4, rfl, hx4, he4⟩
  have F4 := Lib.hid (F3.out.ext hx4)
  have G4 := Lib.hid (G3.out.ext hx4)
  have E4 := E3.trans hx4
  have he3 := he3.ext hx4
  clear F3 G3 p0 p1 p2 q0 q1 q2 hx4 E3
  obtain ⟨p0, p1, p2⟩ := F4.out
  obtain ⟨q0, q1, q2⟩ := G4.out
  obtain rfl : x3 = .nilIface := he3
  obtain rfl : x4 = .nilIface := he4
  have hl := ra.form
  obtain ⟨_, _, e⟩ := hl
  simp only [Value.slice.injEq] at e
  obtain ⟨-, hl, -⟩ := e
  obtain ⟨g0, off, cp, e, -, -⟩ := (show Row w (.slice a n ca) n (xs.map (Value.int .i64)) by rw [hl]; exact hl ▸ ra).some (by omega)
  simp only [Value.slice.injEq] at e
  obtain ⟨rfl, -, rfl⟩ := e
  have r0 := E4.cell ((show Row w (.slice (some ⟨g0, off, none⟩) n ca) n (xs.map (Value.int .i64)) by rw [hl]; exact hl ▸ ra).at (j := 0) (u := .int .i64 x0) (by rw [List.getElem?_map, hx0.out]; rfl))
  change w4.cell? ⟨g0, off, none⟩ = _ at r0
  have t1 : (0 : Int) < (n : Int) := by omega
  have t2 : decide (0 < n) = true := decide_eq_true (show 0 < n from hn)
  have t3 : 0 < n := hn
  have HRA := Lib.hid (ra.ext E4)
  clear hl q0 q1 q2
  go_wp2_with fail
  go_region_held3 (fun w' => w'.cell? ⟨w.heap.size, 2, none⟩ = some (.slice (some ⟨g0, off, none⟩) n ca) ∧ w'.cell? ⟨g0, off, none⟩ = some (.int .i64 x0) ∧ Ext w4 w')
    (first | assumption | (exact ⟨p2, r0, Ext.refl _⟩) | (exact ⟨p2, r0, (Ext.refl _).drew⟩) | (go_split_ands; exact ⟨hx.cell (by assumption), hx.cell (by assumption), Ext.trans (by assumption) hx⟩))
    ((go_at_call 31; obtain ⟨_, _, hE1⟩ : _ ∧ _ ∧ Ext w4 _ := (by assumption); refine (c5.out _ (HRA.out.ext hE1)).mono ?_; rintro e w' ⟨rfl, hx⟩))
  obtain ⟨_, _, hE1⟩ : _ ∧ _ ∧ Ext w4 _ := by assumption
  have F5 := Lib.hid (F4.out.ext hE1)
  have G5 := Lib.hid (G4.out.ext hE1)
  have E5 := E4.trans hE1
  clear p0 p1 p2 r0 F4 G4 E4 hE1 t1 t2 t3 HRA
  obtain ⟨p0, p1, p2⟩ := F5.out
  obtain ⟨q0, q1, q2⟩ := G5.out
  go_wp2_with fail
  refine (c3.out _ (ra.ext E5) (rb.ext E5)).mono ?_; rintro e w6 ⟨x6, rfl, hx6, he6⟩
  have F6 := Lib.hid (F5.out.ext hx6)
  have G6 := Lib.hid (G5.out.ext hx6)
  have E6 := E5.trans hx6
  clear p0 p1 p2 q0 q1 q2 F5 G5 E5
  obtain ⟨p0, p1, p2⟩ := F6.out
  obtain ⟨q0, q1, q2⟩ := G6.out
  go_wp2_with fail
  refine (c4.out _ (ra.ext E6) (rb.ext E6)).mono ?_; rintro e w7 ⟨x7, rfl, hx7, he7⟩
  have E7 := E6.trans hx7
  have HG := Lib.hid (hg.ext E7)
  clear p0 p1 p2 q0 q1 q2 F6 G6 E6
  have d2 : decide (M ≤ N) = true := decide_eq_true b3
  have d3 : decide (M ≤ S) = true := decide_eq_true b4
  have d4 : decide (0 ≤ N) = true := decide_eq_true b1
  have d5 : decide (0 ≤ M) = true := decide_eq_true b2
  cases bo with
  | true =>
    obtain rfl : N = 0 := b5 rfl
    clear b5 hx6 hx7
    cases f with
    | none =>
      obtain rfl : x6 = .nilIface := he6
      obtain rfl : x7 = .nilIface := he7
      go_wp2_with fail
      go_region_held3 (fun w' => Ext w7 w' ∧ Ext w7 w')
        (first | assumption | (exact ⟨Ext.refl _, Ext.refl _⟩) | (exact ⟨(Ext.refl _).drew, (Ext.refl _).drew⟩) | (exact ⟨Ext.trans hE1 hx, Ext.trans hE1 hx⟩) | (go_split_ands; exact ⟨Ext.trans (by assumption) hx, Ext.trans (by assumption) hx⟩))
        ((go_at_call 42; obtain ⟨hE1, _⟩ : Ext w7 _ ∧ Ext w7 _ := (by assumption); refine (first17_any _ (HG.out.ext hE1)).mono ?_; rintro e w' ⟨rfl, hx⟩))
      obtain ⟨hE1, _⟩ : Ext w7 _ ∧ Ext w7 _ := by assumption
      go_wp2
      go_ret
      exact ⟨rfl, E7.trans hE1⟩
    | some f =>
      obtain ⟨t6, y6, rfl⟩ := he6.ne
      obtain ⟨t7, y7, rfl⟩ := he7.ne
      clear he6 he7
      go_wp2_with fail
      go_region_held3 (fun w' => Ext w7 w' ∧ Ext w7 w')
        (first | assumption | (exact ⟨Ext.refl _, Ext.refl _⟩) | (exact ⟨(Ext.refl _).drew, (Ext.refl _).drew⟩) | (exact ⟨Ext.trans hE1 hx, Ext.trans hE1 hx⟩) | (go_split_ands; exact ⟨Ext.trans (by assumption) hx, Ext.trans (by assumption) hx⟩))
        ((go_at_call 42; obtain ⟨hE1, _⟩ : Ext w7 _ ∧ Ext w7 _ := (by assumption); refine (first17_any _ (HG.out.ext hE1)).mono ?_; rintro e w' ⟨rfl, hx⟩))
      obtain ⟨hE1, _⟩ : Ext w7 _ ∧ Ext w7 _ := by assumption
      go_wp2
      go_ret
      exact ⟨rfl, E7.trans hE1⟩
  | false =>
    clear b5 hx6 hx7
    cases f with
    | none =>
      obtain rfl : x6 = .nilIface := he6
      obtain rfl : x7 = .nilIface := he7
      go_wp2_with fail
      first
        | go_region_held (fun w' => Ext w7 w' ∧ Ext w7 w')
            (first | assumption | (exact ⟨Ext.refl _, Ext.refl _⟩) | (exact ⟨(Ext.refl _).drew, (Ext.refl _).drew⟩) | (exact ⟨Ext.trans hE1 hx, Ext.trans hE1 hx⟩) | (go_split_ands; exact ⟨Ext.trans (by assumption) hx, Ext.trans (by assumption) hx⟩))
            ((go_at_call 42; obtain ⟨hE1, _⟩ : Ext w7 _ ∧ Ext w7 _ := (by assumption); refine (first17_any _ (HG.out.ext hE1)).mono ?_; rintro e w' ⟨rfl, hx⟩))
        | fail
      all_goals
        obtain ⟨hE1, _⟩ : Ext w7 _ ∧ Ext w7 _ := by assumption
        go_wp2
        go_ret
        exact ⟨rfl, E7.trans hE1⟩
    | some f =>
      obtain ⟨t6, y6, rfl⟩ := he6.ne
      obtain ⟨t7, y7, rfl⟩ := he7.ne
      clear he6 he7
      go_wp2_with fail
      first
        | go_region_held (fun w' => Ext w7 w' ∧ Ext w7 w')
            (first | assumption | (exact ⟨Ext.refl _, Ext.refl _⟩) | (exact ⟨(Ext.refl _).drew, (Ext.refl _).drew⟩) | (exact ⟨Ext.trans hE1 hx, Ext.trans hE1 hx⟩) | (go_split_ands; exact ⟨Ext.trans (by assumption) hx, Ext.trans (by assumption) hx⟩))
            ((go_at_call 42; obtain ⟨hE1, _⟩ : Ext w7 _ ∧ Ext w7 _ := (by assumption); refine (first17_any _ (HG.out.ext hE1)).mono ?_; rintro e w' ⟨rfl, hx⟩))
        | fail
      all_goals
        obtain ⟨hE1, _⟩ : Ext w7 _ ∧ Ext w7 _ := by assumption
        go_wp2
        go_ret
        exact ⟨rfl, E7.trans hE1⟩
theorem fla_law (W H W' H' : Int) (xs ys : List Int) (va vb : Value) (w : World) (hg : EtIs w) (ra : Row w va xs.length (xs.map (Value.int .i64))) (rb : Row w vb ys.length (ys.map (Value.int .i64))) :
    Calls Tryd.prog 15 #[.agg #[.int .i64 W, .int .i64 H, va], .agg #[.int .i64 W', .int .i64 H', vb]] w fun e w' => e = .returned (.bool true) ∧ Ext w w' := by
  obtain ⟨a, ca, rfl⟩ := ra.form
  obtain ⟨b, cb, rfl⟩ := rb.form
  cases hp : pixB [(W, H, xs), (W', H', ys)] with
  | false => exact fla_long W H W' H' xs ys a b _ _ ca cb w hg ra rb hp
  | true =>
    obtain ⟨l1, l2⟩ := pix_two hp
    have l1' := Nat.le_trans l1 (show 20000 ≤ 4611686018427387903 by decide)
    have l2' := Nat.le_trans l2 (show 20000 ≤ 4611686018427387903 by decide)
    have k1 := fun w (k : Row w (.slice a xs.length ca) xs.length (xs.map (Value.int .i64))) => inner_any W H xs a _ ca w ⟨k, l1'⟩
    have k2 := fun w (k : Row w (.slice a xs.length ca) xs.length (xs.map (Value.int .i64))) => outer_any W H W H xs xs a a _ _ ca ca w ⟨k, l1'⟩ ⟨k, l1'⟩
    rw [ouV_self, inAns_fr] at k2
    by_cases hm : may W H xs
    · have hi : inAns W H xs = none := by unfold inAns; rw [if_pos hm]
      rw [hi] at k1 k2
      have hlen : 1 ≤ xs.length := by have := may_area hm; have := hm.2.2.1; omega
      exact fla_walk W H W' H' xs ys a b _ _ ca cb w hg ra rb (inV W H xs) (ouV W H xs W' H' ys) (sumV W H xs W' H' ys) (xs.getD 0 0) (decide (within (xs.getD 0 0) (xs.getD 0 0) xs)) (frAns W H xs W' H' ys) hp hlen (inV_in W H xs).1 (ouV_in W H xs W' H' ys).1 (ouV_le_in W H xs W' H' ys) (ouV_le_sum W H xs W' H' ys)
        (fun h => inV_flat (of_decide_eq_true h)) (get_of_lt hlen) k1 k2
        (fun w k1 k2 => outer_any W H W' H' xs ys a b _ _ ca cb w ⟨k1, l1'⟩ ⟨k2, l2'⟩) (fun w k1 k2 => sum_any W H W' H' xs ys a b _ _ ca cb w ⟨k1, l1'⟩ ⟨k2, l2'⟩)
        (fun w k1 => within_any xs _ _ _ w ⟨k1, l1'⟩)
    · have hi : inAns W H xs = form := by unfold inAns; rw [if_neg hm]
      have hv : inV W H xs = 0 := by unfold inV; rw [if_neg hm]
      rw [hi] at k1 k2
      rw [hv] at k1
      exact fla_no W H W' H' xs ys a b _ _ ca cb w hg ra rb _ hp k1 k2
end Go.Proofs.YtmhbmegmlpenkaaDoor

/- What closes a law of this seat: from the walk (it returns true, and nothing that was there has changed) to the card. -/
namespace Go.Proofs.YtmhbmegmlpenkaaDoor
set_option linter.unusedVariables false
set_option linter.unusedSimpArgs false
open Go.ChangeShapes Go.WideShapes Go.ChangeAt Go.RowKit

section
variable {H : Type} {enc : TypeId × Value → H} {P : Program}
theorem trodAll_stays (hl : laidOutB P = true) {W W' : World} (hb : Ext W W') {sp : Nat → Bool} :
    ∀ {ts : List TypeId} {vs : List Value} {ds : List (DataW H)} {ps : List MemPlace}, (∀ t ∈ ts, P.readableRec t = true ∧ t < P.types.size) → DataW.TrodAll enc P W 0 (fun _ => true) true ts vs ds ps →
      (∀ x ∈ ps, x.block < W.heap.size) → (∀ x ∈ ps, sp x.block = true) → DataW.TrodAll enc P W' 0 sp true ts vs ds ps
  | [], _, _, _, _, h, _, _ => by
    obtain ⟨rfl, rfl, rfl⟩ := trodAll_nil h
    exact rfl
  | t :: ts, _, _, _, hr, h, hlt, hsp => by
    obtain ⟨v, vs, d, ds, p, q, rfl, rfl, rfl, h1, h2⟩ := trodAll_cons h
    have h0 := hr t (by simp)
    exact ⟨p, q, WideElems.Trod_stays hl h0.1 h0.2 h1 (fun x hx => Below.same hb (hlt x (by simp [hx]))) (fun x hx => hsp x (by simp [hx])),
      trodAll_stays hl hb (fun t ht => hr t (by simp [ht])) h2 (fun x hx => hlt x (by simp [hx])) (fun x hx => hsp x (by simp [hx])), rfl⟩

theorem post_law {f : Func} {s : ChangeSpec} {handsOn again : Bool} {W W' : World} {args : Array Value} {ds gs : List (DataW H)} {before : List MemPlace} {tb : TypeId}
    (hl : laidOutB P = true) (hr0 : (f.params.toList.all fun t => P.readableRec t && decide (t < P.types.size)) = true)
    (hW : DataW.Whole enc P f.params.toList s.vars false W args.toList ds gs before) (hvars : s.vars = []) (hres : f.resultTypes = #[tb]) (htb : P.underlying tb = some .bool)
    (hfn : gs = [] → s.fn H (ds ++ gs) = { results := [.lit (.bool true)], args := ds }) (hb : Ext W W') :
    s.post enc P f false true handsOn again W args (.bool true) W' := by
  have hr : ∀ t ∈ f.params.toList, P.readableRec t = true ∧ t < P.types.size := fun t ht => by simpa using List.all_eq_true.1 hr0 t ht
  have hW' := hW
  obtain ⟨p, q, hA, hV, rfl, hfz, _⟩ := hW
  rw [hvars] at hV
  obtain ⟨rfl, rfl⟩ : gs = [] ∧ q = [] := by
    cases gs with
    | nil => exact ⟨rfl, hV⟩
    | cons g r => exact absurd hV (by intro h; cases h)
  have hlt : ∀ x ∈ p, x.block < W.heap.size := fun x hx => hW'.lt x (by simpa using hx)
  have e1 := hfn rfl
  have hargs : ∀ sp : Nat → Bool, (∀ x ∈ p, sp x.block = true) → DataW.TrodAll enc P W' 0 sp true f.params.toList args.toList ds p := fun sp hs => trodAll_stays hl hb hr hA hlt hs
  have hold : ∀ x ∈ p, (fun b => decide (b < W.heap.size)) x.block = true := fun x hx => by simpa using hlt x hx
  have hres' : ∀ (b : Nat) (sp : Nat → Bool) (hd : Bool), DataW.TrodAll enc P W' b sp hd f.resultTypes.toList ((Value.bool true).resultList f.resultTypes.size) [.lit (.bool true)] [] := fun b sp hd => by
    rw [hres]
    exact trodAll_cons_mk (shut_bool htb _) trodAll_mk0
  refine ⟨ds, [], p ++ [], [], p, [], hW', by rw [e1]; exact hres' _ _ _, by rw [e1]; exact hargs _ hold, by rw [e1, hvars]; exact rfl,
    World.keptBut_mono (fun x hx => ⟨hx, Or.inr (Or.inl (by simpa using hx))⟩) (Below.frame hb (· ∈ p ++ [])), fun _ => ⟨ok_one hres rfl (okWide_bool_mk htb true), _, [], ([] ++ p) ++ [], ⟨[] ++ p, [], trodAll_append (hargs _ (fun _ _ => rfl)) (hres' _ _ _), by rw [hvars]; exact rfl, rfl, ?_, fun h => by cases h⟩, ?_⟩⟩
  · intro b off hp
    have hin : MemPlace.cell b off ∈ p := by simpa using hp
    rw [Below.frozen hb (hlt _ hin)]
    exact hfz b off (by simpa using hin)
  · intro x hx _
    simpa using hx
end

theorem own : ownKnob Tryd.prog.godebug = none := by kernel_rfl
theorem laidOut' : laidOutB Tryd.prog = true := by kernel_rfl
theorem gEt : Tryd.prog.globalNamed "errors.errorType" = some 0 := by kernel_rfl
theorem rtNum : (Tryd.prog.cutTypes.find? (·.1 == "internal/reflectlite.rtype")).map (·.2) = some 136 := by kernel_rfl
theorem typesSize : Tryd.prog.types.size = 179 := by kernel_rfl
theorem oneRow : ((List.range 179).filter fun t => Tryd.prog.rowNamed t [101, 114, 114, 111, 114]) = [35] := by kernel_rfl

/-- what a row that lists errors.errorType gives -/
theorem et_of_handles {hs : List (String × DataW Unit)} {W : World} (hm : ("errors.errorType", Rows.laid_errors_errorType) ∈ hs) (h : handlesMet Tryd.prog hs W) : EtIs W := by
  obtain ⟨name, u, ty, e1, e2, e3, e4, e5⟩ := h _ hm
  have en : name = [101, 114, 114, 111, 114] := (Option.some.inj e1).symm
  subst en
  obtain rfl := Option.some.inj (rtNum.symm.trans e2)
  have hm : ty ∈ (List.range 179).filter fun t => Tryd.prog.rowNamed t [101, 114, 114, 111, 114] := List.mem_filter.2 ⟨List.mem_range.2 (by rw [← typesSize]; exact e3), e4⟩
  rw [oneRow] at hm
  obtain rfl := List.mem_singleton.1 hm
  have hh : typeHandle Tryd.prog 35 = .pointer (some ⟨1, 35, none⟩) := by kernel_rfl
  rw [hh] at e5
  have := World.var?_cell gEt e5 0
  simpa [EtIs] using this

theorem et_of_laid {W : World} (h : laidMetH Tryd.prog [("errors.errorType", Rows.laid_errors_errorType)] W) : EtIs W := by
  have h' : laidMet Tryd.prog [] W ∧ handlesMet Tryd.prog [("errors.errorType", Rows.laid_errors_errorType)] W := h
  exact et_of_handles (List.mem_singleton.2 rfl) h'.2

/-- a world that meets what the rows list -/
noncomputable def laidWorld (os : Os) : World :=
  let w0 := World.holding Tryd.prog os ⟨#[], #[], []⟩
  { w0 with heap := w0.heap.modify 0 fun
      | .cells _ t frozen => .cells #[.iface 136 (.agg #[.pointer (some ⟨1, 35, none⟩)])] t frozen
      | o => o }
theorem laidWorld_met (os : Os) (args : Array Value) : laidMetH Tryd.prog [("errors.errorType", Rows.laid_errors_errorType)] ((laidWorld os).forCall (fun _ _ => 0) ⟨#[], args, []⟩).memory :=
  laidMetH_of_parts (laidMet_nil _ _) (by kernel_rfl)
end Go.Proofs.YtmhbmegmlpenkaaDoor

/- Arguments opened: a []int; a frame; structs of ints. -/
namespace Go.Proofs.YtmhbmegmlpenkaaDoor
set_option linter.unusedVariables false
set_option linter.unusedSimpArgs false
open Go.ChangeShapes Go.WideShapes Go.ChangeAt Go.RowKit Go.Joins Go.Deep
section
variable {H : Type} {enc : TypeId × Value → H} {w : World}

theorem wf_bounds {n : Int} (h : (Lit.int .i64 n).wf = true) : -9223372036854775808 ≤ n ∧ n ≤ 9223372036854775807 := bounds_i64 h

theorem lits_cells {k : IntKind} {zs : List Int} {n j : Nat} {u : Value} (h : ((zs.take n).map (Value.int k))[j]? = some u) : j < zs.length ∧ u = .int k (zs.getD j 0) := by
  rw [List.getElem?_map] at h
  obtain ⟨x, hx, rfl⟩ := Option.map_eq_some_iff.1 h
  rw [List.getElem?_take] at hx
  split at hx
  · obtain ⟨hj, e⟩ := List.getElem?_eq_some_iff.1 hx
    exact ⟨hj, by simp [List.getD, hx]⟩
  · cases hx

set_option maxRecDepth 100000 in
theorem ints_of_trod {sp : Nat → Bool} {v : Value} {y : DataW H × List MemPlace} {fuel : Nat} (hsp : ∀ b, sp b = true) (hf : DataW.trod enc Tryd.prog w 0 sp true fuel 22 [v] = some y) :
    ∃ zs : List Int, Row w v zs.length (zs.map (Value.int .i64)) ∧ zs.length ≤ 9223372036854775807 ∧ ∀ x ∈ zs, -9223372036854775808 ≤ x ∧ x ≤ 9223372036854775807 := by
  rcases open_ints Tryd.underlying22 (k := .i64) Tryd.underlying3 (by kernel_rfl) hf with ⟨hc, _⟩ | ⟨a, len, cap, zs, hc, _, hl, hm, hlen, _, hcell, hw⟩
  · obtain rfl : v = .slice none 0 0 := (List.cons.inj hc).1
    exact ⟨[], Row.nil w, by simp, by simp⟩
  · obtain rfl : v = .slice (some a) len cap := (List.cons.inj hc).1
    rw [hsp a.block] at hlen
    simp only [if_true] at hlen
    have hl' : (zs.take len).length = len := by simp; omega
    refine ⟨zs.take len, ⟨some a, cap, by rw [hl'], by rw [hl']; exact hl, hm, fun h0 => ?_, fun g off ha j u hu => ?_⟩, ?_, fun x hx => wf_bounds (hw x (List.mem_of_mem_take hx))⟩
    · have hp : 0 < zs.length := by rw [hl'] at h0; omega
      obtain ⟨b, off, rfl, _⟩ := ints_at hcell hp
      exact ⟨b, off, rfl⟩
    · obtain ⟨hj, rfl⟩ := lits_cells hu
      have := hcell j hj
      obtain rfl := Option.some.inj ha
      rwa [Go.WideShapes.add_plain] at this
    · rw [hl']; unfold maxLen at hm; omega
set_option maxRecDepth 100000 in
theorem ints_of_reading {r : Reach} {b0 : Nat} {sp : Nat → Bool} {v : Value} {d : DataW H} {p : List MemPlace} (hsp : ∀ b, sp b = true) (hv : Value.okWide Tryd.prog w r b0 22 v) (h : DataW.Trod enc Tryd.prog w 0 sp true 22 v d p) :
    ∃ zs : List Int, Row w v zs.length (zs.map (Value.int .i64)) ∧ zs.length ≤ 9223372036854775807 ∧ ∀ x ∈ zs, -9223372036854775808 ≤ x ∧ x ≤ 9223372036854775807 := by
  obtain ⟨a0, l0, c0, rfl⟩ := okWide_slice Tryd.underlying22 hv
  obtain ⟨fuel, hf⟩ := h
  exact ints_of_trod hsp hf

def isI64 (P : Program) (f : Field) : Bool := match P.underlying f.type with
  | some (.int .i64) => true
  | _ => false
theorem isI64_out {P : Program} {f : Field} (h : isI64 P f = true) : P.underlying f.type = some (.int .i64) := by
  unfold isI64 at h
  split at h
  · assumption
  · cases h

theorem open_int_struct {P : Program} {t : TypeId} {fs : Array Field} {r : Reach} {b0 : Nat} {sp : Nat → Bool} {v : Value} {d : DataW H} {p : List MemPlace} (hs : P.underlying t = some (.struct fs))
    (hone : oneCellFields P fs = true) (hint : fs.toList.all (isI64 P) = true) (hC : P.cellsOf t = fs.size)
    (hv : Value.okWide P w r b0 t v) (h : DataW.Trod enc P w 0 sp true t v d p) :
    ∃ zs : List Int, v = .agg (zs.map (Value.int .i64)).toArray ∧ zs.length = fs.size ∧ ∀ x ∈ zs, -9223372036854775808 ≤ x ∧ x ≤ 9223372036854775807 := by
  obtain ⟨cs, rfl, hsz⟩ := okWide_struct hs hv
  obtain ⟨l⟩ := cs
  obtain ⟨fuel, hf⟩ := h
  obtain ⟨xs, n, _, _, hl, hlen, hg⟩ := DataW.trod_struct hs hf
  have hl' : l.length = fs.size := by simpa [hC] using hsz
  have each : ∀ (i : Nat) (hi : i < l.length), ∃ m, l[i] = .int .i64 m ∧ (Lit.int .i64 m).wf = true := fun i hi => by
    have hif : i < fs.size := by omega
    have hfi : fs[i]? = some fs[i] := by simp
    obtain ⟨o0, k0⟩ := hone_of hone i _ hfi
    have h1 := hg i _ hfi
    rw [o0, k0] at h1
    have hone' : ((Value.agg ⟨l⟩).cells.toList.drop i).take 1 = [l[i]] := by
      simp only [Value.cells]
      rw [List.drop_eq_getElem_cons (by simpa using hi)]
      rfl
    rw [hone', List.getElem?_eq_getElem (by omega)] at h1
    have hi64 : isI64 P fs[i] = true := List.all_eq_true.1 hint _ (by simp)
    obtain ⟨m, hm, _, hw⟩ := DataW.trod_int (isI64_out hi64) h1
    exact ⟨m, (List.cons.inj hm).1, hw⟩
  refine ⟨l.map intOf, ?_, by simpa using hl', fun x hx => ?_⟩
  · congr 1
    apply Array.ext'
    simp only [List.map_map]
    symm
    conv => rhs; rw [← List.map_id l]
    apply List.map_congr_left
    intro u hu
    obtain ⟨i, hi, rfl⟩ := List.getElem_of_mem hu
    obtain ⟨m, hm, _⟩ := each i hi
    simp [hm, intOf]
  · obtain ⟨u, hu, rfl⟩ := List.mem_map.1 hx
    obtain ⟨i, hi, rfl⟩ := List.getElem_of_mem hu
    obtain ⟨m, hm, hw⟩ := each i hi
    rw [hm]
    exact wf_bounds hw

set_option maxRecDepth 100000 in
theorem open_frame {r : Reach} {b0 : Nat} {sp : Nat → Bool} {v : Value} {d : DataW H} {p : List MemPlace} (hsp : ∀ b, sp b = true)
    (hv : Value.okWide Tryd.prog w r b0 24 v) (h : DataW.Trod enc Tryd.prog w 0 sp true 24 v d p) :
    ∃ (W H' : Int) (u : Value) (zs : List Int), v = .agg #[.int .i64 W, .int .i64 H', u] ∧ (-9223372036854775808 ≤ W ∧ W ≤ 9223372036854775807) ∧ (-9223372036854775808 ≤ H' ∧ H' ≤ 9223372036854775807) ∧
      Row w u zs.length (zs.map (Value.int .i64)) ∧ zs.length ≤ 9223372036854775807 ∧ ∀ x ∈ zs, -9223372036854775808 ≤ x ∧ x ≤ 9223372036854775807 := by
  obtain ⟨v0, v1, v2, y0, y1, y2, n, rfl, -, -, h0, h1, h2⟩ := open_agg3 Tryd.underlying24 (by kernel_rfl) (by kernel_rfl) hv h
  obtain ⟨m0, e0, -, w0⟩ := DataW.trod_int Tryd.underlying3 h0
  obtain ⟨m1, e1, -, w1⟩ := DataW.trod_int Tryd.underlying3 h1
  obtain ⟨zs, hz⟩ := ints_of_trod hsp h2
  obtain rfl := (List.cons.inj e0).1
  obtain rfl := (List.cons.inj e1).1
  exact ⟨m0, m1, v2, zs, rfl, wf_bounds w0, wf_bounds w1, hz⟩
end
end Go.Proofs.YtmhbmegmlpenkaaDoor

/- Groups, plain: they lie one behind the other; where they begin. -/
namespace Go.Proofs.YtmhbmegmlpenkaaDoor
set_option linter.unusedVariables false
set_option linter.unusedSimpArgs false
open Go.RowKit

def Chain : Int → List (Int × Int) → Int → Prop
  | a, [], b => a = b
  | a, p :: L, b => p.1 = a ∧ 1 ≤ p.2 ∧ Chain (a + p.2) L b
theorem chain_append {a b c : Int} {L M : List (Int × Int)} (h : Chain a L b) (k : Chain b M c) : Chain a (L ++ M) c := by
  induction L generalizing a with
  | nil => obtain rfl : a = b := h; exact k
  | cons p L ih => exact ⟨h.1, h.2.1, ih h.2.2⟩
theorem chain_bump {a b F C : Int} {I : List (Int × Int)} (h : Chain a (I ++ [(F, C)]) b) : Chain a (I ++ [(F, C + 1)]) (b + 1) := by
  induction I generalizing a with
  | nil =>
    obtain ⟨h1, h2, h3⟩ := h
    have h3' : a + C = b := h3
    have h2' : 1 ≤ C := h2
    exact ⟨h1, by show 1 ≤ C + 1; omega, by show a + (C + 1) = b + 1; omega⟩
  | cons p I ih => exact ⟨h.1, h.2.1, ih h.2.2⟩
theorem chain_mem {a b : Int} {L : List (Int × Int)} (h : Chain a L b) : a ≤ b ∧ ∀ p ∈ L, a ≤ p.1 ∧ 1 ≤ p.2 ∧ p.1 + p.2 ≤ b := by
  induction L generalizing a with
  | nil =>
    obtain rfl : a = b := h
    exact ⟨Int.le_refl _, fun p hp => by cases hp⟩
  | cons p L ih =>
    obtain ⟨h1, h2, h3⟩ := h
    obtain ⟨i1, i2⟩ := ih h3
    refine ⟨by omega, fun q hq => ?_⟩
    rcases List.mem_cons.1 hq with rfl | hq
    · omega
    · have := i2 q hq; omega
theorem chain_of {a b x : Int} {L : List (Int × Int)} (h : Chain a L b) (h1 : a ≤ x) (h2 : x < b) (q : Int) :
    ∃ (k : Nat) (F C : Int), ofV x L q = q + k ∧ L[k]? = some (F, C) ∧ (F = x ↔ ∃ p ∈ L, p.1 = x) := by
  induction L generalizing a q with
  | nil =>
    obtain rfl : a = b := h
    omega
  | cons p L ih =>
    obtain ⟨c1, c2, c3⟩ := h
    by_cases hx : x < a + p.2
    · refine ⟨0, p.1, p.2, ?_, rfl, fun e => ⟨p, List.mem_cons_self, e⟩, fun ⟨p', hp, e⟩ => ?_⟩
      · show (if inG x p then q else ofV x L (q + 1)) = _
        rw [if_pos ⟨by omega, by omega, by omega⟩]
        simp
      · rcases List.mem_cons.1 hp with rfl | hp
        · exact e
        · have := (chain_mem c3).2 p' hp; omega
    · obtain ⟨k, F, C, e1, e2, e3⟩ := ih c3 (by omega) (q + 1)
      refine ⟨k + 1, F, C, ?_, by simpa using e2, ?_⟩
      · show (if inG x p then q else ofV x L (q + 1)) = _
        rw [if_neg (fun e => by have := e.2.2; omega), e1]
        push_cast
        omega
      · rw [e3]
        constructor
        · rintro ⟨p', hp, e⟩; exact ⟨p', List.mem_cons_of_mem _ hp, e⟩
        · rintro ⟨p', hp, e⟩
          rcases List.mem_cons.1 hp with rfl | hp
          · omega
          · exact ⟨p', hp, e⟩
theorem unlAt_zero (L : List Fr) : unlAt L 0 = 0 := by unfold unlAt; exact unlV_self _ _ _
theorem grpS_step {L : List Fr} {cut : Int} {k : Nat} (hk : k < 16) : grpS L cut 16 (k + 1) = if cut < unlAt L k then ((grpS L cut 16 k).1 ++ [((grpS L cut 16 k).2.1, (grpS L cut 16 k).2.2)], (k : Int), 1) else ((grpS L cut 16 k).1, (grpS L cut 16 k).2.1, (grpS L cut 16 k).2.2 + 1) := by
  have hb := grpS_bound L cut 16 k
  show (if cut < unlAt L k ∨ (grpS L cut 16 k).2.2 = 16 then _ else _) = _
  by_cases hc : cut < unlAt L k
  · rw [if_pos (Or.inl hc), if_pos hc]
  · rw [if_neg (fun e => e.elim hc (fun e => by omega)), if_neg hc]
theorem grp_inv (L : List Fr) (cut : Int) (hcut : 0 ≤ cut) (k : Nat) (hk : k + 1 ≤ 16) :
    Chain 0 (grpL L cut 16 (k + 1)) ((k + 1 : Nat) : Int) ∧ ∀ i : Nat, i < k + 1 → ((∃ p ∈ grpL L cut 16 (k + 1), p.1 = (i : Int)) ↔ (i = 0 ∨ cut < unlAt L i)) := by
  induction k with
  | zero =>
    have hs : grpL L cut 16 1 = [(0, 1)] := by
      unfold grpL
      rw [grpS_step (by omega), unlAt_zero, if_neg (by omega)]
      rfl
    rw [hs]
    refine ⟨⟨rfl, Int.le_refl _, rfl⟩, fun i hi => ?_⟩
    obtain rfl : i = 0 := by omega
    exact ⟨fun _ => Or.inl rfl, fun _ => ⟨(0, 1), List.mem_cons_self, rfl⟩⟩
  | succ k ih =>
    obtain ⟨i1, i2⟩ := ih (by omega)
    have hm := chain_mem i1
    by_cases hc : cut < unlAt L (k + 1)
    · have hs : grpL L cut 16 (k + 1 + 1) = grpL L cut 16 (k + 1) ++ [(((k + 1 : Nat) : Int), 1)] := by
        show (grpS L cut 16 (k + 1 + 1)).1 ++ _ = _
        rw [grpS_step (by omega), if_pos hc]
        rfl
      rw [hs]
      refine ⟨chain_append i1 ⟨rfl, Int.le_refl _, rfl⟩, fun i hi => ?_⟩
      by_cases hik : i < k + 1
      · rw [← i2 i hik]
        constructor
        · rintro ⟨p, hp, e⟩
          rcases List.mem_append.1 hp with hp | hp
          · exact ⟨p, hp, e⟩
          · obtain rfl := List.mem_singleton.1 hp
            have e' : ((k + 1 : Nat) : Int) = (i : Int) := e
            omega
        · rintro ⟨p, hp, e⟩; exact ⟨p, List.mem_append_left _ hp, e⟩
      · obtain rfl : i = k + 1 := by omega
        exact ⟨fun _ => Or.inr hc, fun _ => ⟨_, List.mem_append_right _ (List.mem_singleton.2 rfl), rfl⟩⟩
    · obtain ⟨I, F, C, e0⟩ : ∃ I F C, grpS L cut 16 (k + 1) = (I, F, C) := ⟨_, _, _, rfl⟩
      have h0 : grpL L cut 16 (k + 1) = I ++ [(F, C)] := by unfold grpL; rw [e0]
      have hs : grpL L cut 16 (k + 1 + 1) = I ++ [(F, C + 1)] := by
        show (grpS L cut 16 (k + 1 + 1)).1 ++ [((grpS L cut 16 (k + 1 + 1)).2.1, (grpS L cut 16 (k + 1 + 1)).2.2)] = _
        rw [grpS_step (by omega), if_neg hc, e0]
      rw [h0] at i1 i2 hm
      rw [hs]
      refine ⟨by have := chain_bump i1; push_cast at this ⊢; exact this, fun i hi => ?_⟩
      have same : (∃ p ∈ I ++ [(F, C + 1)], p.1 = (i : Int)) ↔ ∃ p ∈ I ++ [(F, C)], p.1 = (i : Int) := by
        constructor
        · rintro ⟨p, hp, e⟩
          rcases List.mem_append.1 hp with hp | hp
          · exact ⟨p, List.mem_append_left _ hp, e⟩
          · obtain rfl := List.mem_singleton.1 hp
            exact ⟨(F, C), List.mem_append_right _ (List.mem_singleton.2 rfl), e⟩
        · rintro ⟨p, hp, e⟩
          rcases List.mem_append.1 hp with hp | hp
          · exact ⟨p, List.mem_append_left _ hp, e⟩
          · obtain rfl := List.mem_singleton.1 hp
            exact ⟨(F, C + 1), List.mem_append_right _ (List.mem_singleton.2 rfl), e⟩
      rw [same]
      by_cases hik : i < k + 1
      · exact i2 i hik
      · obtain rfl : i = k + 1 := by omega
        constructor
        · rintro ⟨p, hp, e⟩
          have := hm.2 p hp
          omega
        · rintro (h | h)
          · omega
          · exact absurd h hc
theorem grp_len (L : List Fr) {cut more : Int} (h : cut ≤ more) (k : Nat) (hk : k ≤ 16) : (grpS L more 16 k).1.length ≤ (grpS L cut 16 k).1.length := by
  induction k with
  | zero => exact Nat.le_refl _
  | succ k ih =>
    have ih := ih (by omega)
    rw [grpS_step (by omega), grpS_step (by omega)]
    by_cases h1 : more < unlAt L k
    · rw [if_pos h1, if_pos (by omega)]
      simp only [List.length_append, List.length_cons, List.length_nil]
      omega
    · rw [if_neg h1]
      split
      · simp only [List.length_append, List.length_cons, List.length_nil]; omega
      · exact ih
/-- what SceneCuts asks of the frame i -/
theorem cuts_at (L : List Fr) (cut : Int) (hcut : 0 ≤ cut) (n : Nat) (hn : 1 ≤ n ∧ n ≤ 16) (i : Nat) (hi : i < n) :
    ∃ (k : Nat) (F C : Int), ofV i (grpL L cut 16 n) 0 = k ∧ (grpL L cut 16 n)[k]? = some (F, C) ∧ (F == (i : Int)) = ((i : Int) == 0 || decide (cut < unlAt L i)) := by
  obtain ⟨m, rfl⟩ : ∃ m, n = m + 1 := ⟨n - 1, by omega⟩
  obtain ⟨h1, h2⟩ := grp_inv L cut hcut m hn.2
  obtain ⟨k, F, C, e1, e2, e3⟩ := chain_of h1 (show (0 : Int) ≤ (i : Int) by omega) (by omega) 0
  refine ⟨k, F, C, by rw [e1]; omega, e2, ?_⟩
  rw [Bool.eq_iff_iff, beq_iff_eq, Bool.or_eq_true, beq_iff_eq, decide_eq_true_iff, e3, h2 i hi]
  constructor
  · rintro (h | h)
    · exact Or.inl (by omega)
    · exact Or.inr h
  · rintro (h | h)
    · exact Or.inl (by omega)
    · exact Or.inr h
theorem grp_small (L : List Fr) (cut : Int) (hcut : 0 ≤ cut) (n : Nat) (hn : 1 ≤ n ∧ n ≤ 16) : ∀ (q : Nat) (p : Int × Int), (grpL L cut 16 n)[q]? = some p → small p := fun q p hq => by
  obtain ⟨m, rfl⟩ : ∃ m, n = m + 1 := ⟨n - 1, by omega⟩
  have := (chain_mem (grp_inv L cut hcut m hn.2).1).2 p (List.mem_of_getElem? hq)
  unfold small
  omega
theorem grpF_none {L : List Fr} {n : Nat} (h : grpF L n = none) {i : Nat} (hi : i < n) : ansAt L i = none := by
  have h1 : grpF L (i + 1) = none := by
    cases hc : grpF L (i + 1) with
    | none => rfl
    | some f =>
      have := grpF_some hc (n - (i + 1))
      rw [show i + 1 + (n - (i + 1)) = n by omega, h] at this
      cases this
  unfold grpF at h1
  split at h1
  · cases h1
  · split at h1
    · assumption
    · cases h1
end Go.Proofs.YtmhbmegmlpenkaaDoor

/- kinlaw16.Pix of any list; kinlaw16.SceneCuts: the walk. -/
namespace Go.Proofs.YtmhbmegmlpenkaaDoor
set_option linter.unusedVariables false
set_option linter.unusedSimpArgs false
open Go.RowKit Go.Extern.Stop Go.Stop Go.Extern

set_option maxRecDepth 20000 in
set_option maxHeartbeats 2000000 in
theorem pix_all (L : List Fr) (v : Value) (w : World) (h : Fms w v L) :
    Calls Tryd.prog 34 #[v] w fun e w' => e = .returned (.bool (pixB L)) ∧ Ext w w' := by
  obtain ⟨a, cap, rfl⟩ := h.form
  obtain ⟨n, hn⟩ : ∃ n, n = L.length := ⟨_, rfl⟩
  have HN := Lib.hid hn
  rw [← hn] at h ⊢
  have AG := Lib.hid h.had
  clear hn
  have r2 := mn2
  go_enter Tryd.func34, Tryd.ntmps34
  go_wp2
  go_loopw [3, 4] (fun sv iv wr => ∃ k : Nat, k ≤ n ∧ k ≤ 40 ∧ iv = .int .i64 k ∧ sv = .int .i64 (pixN L k) ∧ Ext w wr) (fun _ iv _ => n - (intOf iv).toNat)
  case atStart => exact ⟨0, Nat.zero_le _, by omega, rfl, rfl, Ext.refl _⟩
  case round =>
    obtain ⟨k, hk, hk2, rfl, rfl, hE⟩ := hrel
    have b0 := pixN_bound L k
    by_cases hlt : k < n
    · by_cases h40 : k < 40
      · obtain ⟨g, off, rfl⟩ := AG.out (by omega)
        obtain ⟨f, hf⟩ : ∃ f, L[k]? = some f := ⟨_, List.getElem?_eq_getElem (by rw [← HN.out]; exact hlt)⟩
        obtain ⟨ra, rn, rc, c0, c1, c2, c3⟩ := (h.at hf).ext hE
        obtain ⟨ra', rc', e⟩ := c3.form
        simp only [Value.slice.injEq] at e
        obtain ⟨rfl, rfl, rfl⟩ := e
        have HS : Hid (pixN L (k + 1) = pixN L k + min ((f.2.2.length : Nat) : Int) 20001) := by show pixN L k + _ = _; rw [List.getD, hf]; rfl
        have bl : (0 : Int) ≤ (f.2.2.length : Int) := by omega
        clear c3 hf
        revert HS b0 c2 bl
        generalize pixN L k = s
        generalize f.2.2.length = m
        intro b0 c2 HS bl
        have e1 : IntKind.i64.wrap (s + min (m : Int) 20001) = s + min (m : Int) 20001 := by rw [IntKind.wrap_i64]; omega
        go_wp2
        go_roundw
        case rel => exact ⟨k + 1, by omega, by omega, by go_num, by rw [HS.out], hE⟩
        case measure => simp [intOf]; omega
      · have h41 : ¬ n ≤ 40 := by omega
        have HR : Hid (pixB L = false) := by show _ = _; unfold pixB; rw [← HN.out]; simp [h41]
        have k1 : (40 : Int) < (n : Int) := by omega
        clear h41 b0
        go_wp2
        go_ret
        exact ⟨by rw [HR.out]; rfl, hE⟩
    · have h41 : n ≤ 40 := by omega
      have HR : Hid (pixB L = decide (pixN L k ≤ 20000)) := by show _ = _; unfold pixB; rw [← HN.out, show min n 40 = k by omega]; simp [h41]
      have k1 : (n : Int) ≤ 40 := by omega
      revert HR b0
      generalize pixN L k = s
      intro b0 HR
      clear h41
      by_cases hs : s ≤ 20000
      · have t1 : decide (s ≤ 20000) = true := decide_eq_true hs
        go_wp2
        go_ret
        exact ⟨by rw [HR.out, t1]; rfl, hE⟩
      · have t1 : decide (s ≤ 20000) = false := decide_eq_false hs
        go_wp2
        go_ret
        exact ⟨by rw [HR.out, t1]; rfl, hE⟩
theorem pix_small {L : List Fr} (h : pixB L = true) : ∀ (q : Nat) (f : Fr), L[q]? = some f → f.2.2.length ≤ 1000000 := fun q f hq => by
  unfold pixB at h
  simp only [Bool.and_eq_true, decide_eq_true_eq] at h
  obtain ⟨h1, h2⟩ := h
  rw [show min L.length 40 = L.length by omega] at h2
  obtain ⟨hlt, -⟩ := List.getElem?_eq_some_iff.1 hq
  have mono : ∀ d, pixN L (q + 1) ≤ pixN L (q + 1 + d) := fun d => by
    induction d with
    | zero => exact Int.le_refl _
    | succ d ih =>
      have e : pixN L (q + 1 + (d + 1)) = pixN L (q + 1 + d) + min (((L.getD (q + 1 + d) (0, 0, [])).2.2.length : Nat) : Int) 20001 := rfl
      omega
  have m1 := mono (L.length - (q + 1))
  rw [show q + 1 + (L.length - (q + 1)) = L.length by omega] at m1
  have m2 : pixN L (q + 1) = pixN L q + min ((f.2.2.length : Nat) : Int) 20001 := by show pixN L q + _ = _; rw [List.getD, hq]; rfl
  have m3 := pixN_bound L q
  omega
end Go.Proofs.YtmhbmegmlpenkaaDoor

/- kinref.Groups, kinref.Frames of two that are the same: contracts over this seat's translation. -/
namespace Go.Proofs.YtmhbmegmlpenkaaDoor
set_option linter.unusedVariables false
set_option linter.unusedSimpArgs false
open Go.RowKit Go.Extern.Stop Go.Stop Go.Extern

set_option maxRecDepth 20000 in
set_option maxHeartbeats 2000000 in
theorem groups_same (G : List (Int × Int)) (u v : Value) (w : World) (hu : Row w u G.length (gcells G)) (hv : Row w v G.length (gcells G)) (hl : G.length ≤ 1000000) :
    Calls Tryd.prog 38 #[u, v] w fun e w' => e = .returned (.bool true) ∧ Ext w w' := by
  obtain ⟨a, ca, rfl⟩ := hu.form
  obtain ⟨b, cb, rfl⟩ := hv.form
  obtain ⟨n, hn⟩ : ∃ n, n = G.length := ⟨_, rfl⟩
  have HN := Lib.hid hn
  rw [← hn] at hu hv hl ⊢
  have HU := Lib.hid hu
  have HV := Lib.hid hv
  clear hn hu hv
  go_enter Tryd.func38, Tryd.ntmps38
  go_wp2
  go_loopw [5] (fun iv wr => ∃ k : Nat, k ≤ n ∧ iv = .int .i64 k ∧ Ext w wr) (fun iv _ => n - (intOf iv).toNat)
  case atStart => exact ⟨0, Nat.zero_le _, rfl, Ext.refl w⟩
  case round =>
    obtain ⟨k, hk, rfl, hE⟩ := hrel
    by_cases hlt : k < n
    · obtain ⟨p, hp⟩ : ∃ p, G[k]? = some p := ⟨_, List.getElem?_eq_getElem (by rw [← HN.out]; exact hlt)⟩
      obtain ⟨d1, d2⟩ := gcells_get G k p hp
      obtain ⟨g, o, c1, e1, f1⟩ := row_opened (HU.out.ext hE) (by omega)
      obtain ⟨g', o', c2, e2, f2⟩ := row_opened (HV.out.ext hE) (by omega)
      simp only [Value.slice.injEq, true_and] at e1 e2
      obtain ⟨rfl, rfl⟩ := e1
      obtain ⟨rfl, rfl⟩ := e2
      have q0 := f1 _ _ d1
      have q1 := f1 _ _ d2
      have s0 := f2 _ _ d1
      have s1 := f2 _ _ d2
      rw [← Nat.add_assoc] at q1 s1
      obtain ⟨F, C⟩ := p
      change wr.cell? ⟨g, o + k * 2, none⟩ = some (.int .i64 F) at q0
      change wr.cell? ⟨g, o + k * 2 + 1, none⟩ = some (.int .i64 C) at q1
      change wr.cell? ⟨g', o' + k * 2, none⟩ = some (.int .i64 F) at s0
      change wr.cell? ⟨g', o' + k * 2 + 1, none⟩ = some (.int .i64 C) at s1
      clear d1 d2 f1 f2 hp
      go_wp2
      go_quiet (fail)
      go_wp2
      go_roundw
      case rel => exact ⟨k + 1, by omega, by go_num, hE.drewN _⟩
      case measure => simp [intOf]; omega
    · have hkn : ¬ (k : Int) < (n : Int) := by omega
      clear hlt
      go_wp2
      go_ret
      exact ⟨rfl, hE⟩
set_option maxRecDepth 20000 in
set_option maxHeartbeats 4000000 in
theorem frames_same (L : List Fr) (u v : Value) (w : World) (hu : Fms w u L) (hv : Fms w v L) (hl : L.length ≤ 1000000) (hsm : Hid (∀ (q : Nat) (f : Fr), L[q]? = some f → f.2.2.length ≤ 1000000)) :
    Calls Tryd.prog 39 #[u, v] w fun e w' => e = .returned (.bool true) ∧ Ext w w' := by
  obtain ⟨a, ca, rfl⟩ := hu.form
  obtain ⟨b, cb, rfl⟩ := hv.form
  obtain ⟨n, hn⟩ : ∃ n, n = L.length := ⟨_, rfl⟩
  have HN := Lib.hid hn
  rw [← hn] at hu hv hl ⊢
  have AG := Lib.hid hu.had
  have BG := Lib.hid hv.had
  clear hn
  go_enter Tryd.func39, Tryd.ntmps39
  go_wp2
  go_loopw [5] (fun iv wr => ∃ k : Nat, k ≤ n ∧ iv = .int .i64 k ∧ Ext w wr) (fun iv _ => n - (intOf iv).toNat)
  case atStart => exact ⟨0, Nat.zero_le _, rfl, Ext.refl w⟩
  case round =>
    obtain ⟨k, hk, rfl, hE⟩ := hrel
    by_cases hlt : k < n
    · obtain ⟨f, hf⟩ : ∃ f, L[k]? = some f := ⟨_, List.getElem?_eq_getElem (by rw [← HN.out]; exact hlt)⟩
      obtain ⟨g, o, rfl⟩ := AG.out (by omega)
      obtain ⟨g', o', rfl⟩ := BG.out (by omega)
      obtain ⟨fa, fn, fc, p0, p1, p2, p3⟩ := (hu.at hf).ext hE
      obtain ⟨pa, pn, pc, q0, q1, q2, q3⟩ := (hv.at hf).ext hE
      have H1 : Hid (Ints wr (.slice fa fn fc) f.2.2) := ⟨p3, Nat.le_trans (hsm.out _ _ hf) (by decide)⟩
      have H2 : Hid (Ints wr (.slice pa pn pc) f.2.2) := ⟨q3, Nat.le_trans (hsm.out _ _ hf) (by decide)⟩
      clear p3 q3 hf
      go_wp2_with fail
      go_region_held3 (fun w' => w'.cell? ⟨g, o + k * 3, none⟩ = some (.int .i64 f.1) ∧ w'.cell? ⟨g, o + k * 3 + 1, none⟩ = some (.int .i64 f.2.1) ∧ w'.cell? ⟨g, o + k * 3 + 2, none⟩ = some (.slice fa fn fc) ∧ w'.cell? ⟨g', o' + k * 3, none⟩ = some (.int .i64 f.1) ∧ w'.cell? ⟨g', o' + k * 3 + 1, none⟩ = some (.int .i64 f.2.1) ∧ w'.cell? ⟨g', o' + k * 3 + 2, none⟩ = some (.slice pa pn pc) ∧ Ext wr w')
        (first | assumption | (exact ⟨p0, p1, p2, q0, q1, q2, Ext.refl _⟩) | (exact ⟨p0, p1, p2, q0, q1, q2, (Ext.refl _).drew⟩) | (go_split_ands; exact ⟨hx.cell (by assumption), hx.cell (by assumption), hx.cell (by assumption), hx.cell (by assumption), hx.cell (by assumption), hx.cell (by assumption), Ext.trans (by assumption) hx⟩))
        ((go_at_call 23; obtain ⟨_, _, _, _, _, _, hE1⟩ : _ ∧ _ ∧ _ ∧ _ ∧ _ ∧ _ ∧ Ext wr _ := (by assumption); refine (frame_same f.1 f.2.1 f.2.2 _ _ _ _ _ _ _ (H1.out.ext hE1) (H2.out.ext hE1)).mono ?_; rintro e w' ⟨rfl, hx⟩))
      obtain ⟨_, _, _, _, _, _, hE1⟩ : _ ∧ _ ∧ _ ∧ _ ∧ _ ∧ _ ∧ Ext wr _ := by assumption
      have hE9 := hE.trans hE1
      clear p0 p1 p2 q0 q1 q2 H1 H2 hE hE1
      go_wp2
      go_roundw
      case rel => exact ⟨k + 1, by omega, by go_num, hE9⟩
      case measure => simp [intOf]; omega
    · have hkn : ¬ (k : Int) < (n : Int) := by omega
      clear hlt
      go_wp2
      go_ret
      exact ⟨rfl, hE⟩
end Go.Proofs.YtmhbmegmlpenkaaDoor

/- kinref.CopyFrame: a frame of the call's own. -/
namespace Go.Proofs.YtmhbmegmlpenkaaDoor
set_option linter.unusedVariables false
set_option linter.unusedSimpArgs false
open Go.RowKit Go.Extern.Stop Go.Stop Go.Extern

set_option maxRecDepth 20000 in
set_option maxHeartbeats 2000000 in
theorem copy_frame_own (W H : Int) (zs : List Int) (a : Option Addr) (n cap : Nat) (w : World) (h : Ints w (.slice a n cap) zs) (hl : zs.length ≤ 1000000) :
    Calls Tryd.prog 17 #[.agg #[.int .i64 W, .int .i64 H, .slice a n cap]] w fun e w' => ∃ u, e = .returned (.agg #[.int .i64 W, .int .i64 H, u]) ∧ w'.ownsRow w.heap.size 3 1 u zs.length (zs.map (Value.int .i64)) ∧ Ext w w' := by
  have C1 := Lib.hid (fun v W k => copy_own zs v W k hl)
  have A1 : Ext w (w.alloc (.cells #[.int .i64 W, .int .i64 H, .slice a n cap] 24)) := (Ext.refl w).alloc _
  have R1 := FrAt.new (w.alloc (.cells #[.int .i64 W, .int .i64 H, .slice a n cap] 24))
  rw [show (w.alloc (.cells #[.int .i64 W, .int .i64 H, .slice a n cap] 24)).heap.size = w.heap.size + 1 by simp] at R1
  have p0 : ((w.alloc (.cells #[.int .i64 W, .int .i64 H, .slice a n cap] 24)).alloc (.cells #[.int .i64 0, .int .i64 0, .slice none 0 0] 24)).cell? ⟨w.heap.size, 0, none⟩ = some (.int .i64 W) := ((Ext.refl _).alloc _).cell (by simp)
  have p1 : ((w.alloc (.cells #[.int .i64 W, .int .i64 H, .slice a n cap] 24)).alloc (.cells #[.int .i64 0, .int .i64 0, .slice none 0 0] 24)).cell? ⟨w.heap.size, 1, none⟩ = some (.int .i64 H) := ((Ext.refl _).alloc _).cell (by simp)
  have p2 : ((w.alloc (.cells #[.int .i64 W, .int .i64 H, .slice a n cap] 24)).alloc (.cells #[.int .i64 0, .int .i64 0, .slice none 0 0] 24)).cell? ⟨w.heap.size, 2, none⟩ = some (.slice a n cap) := ((Ext.refl _).alloc _).cell (by simp)
  have E1 : Ext w ((w.alloc (.cells #[.int .i64 W, .int .i64 H, .slice a n cap] 24)).alloc (.cells #[.int .i64 0, .int .i64 0, .slice none 0 0] 24)) := A1.alloc _
  clear A1
  go_enter Tryd.func17, Tryd.ntmps17
  go_wp2_with fail
  revert R1 p0 p1 p2 E1
  generalize (w.alloc (.cells #[.int .i64 W, .int .i64 H, .slice a n cap] 24)).alloc (.cells #[.int .i64 0, .int .i64 0, .slice none 0 0] 24) = wA
  intro R1 p0 p1 p2 E1
  have RW := Lib.hid R1
  clear R1
  go_region_with ((go_at_call 27; refine (C1.out _ _ (h.ext (by repeat (first | exact Ext.refl _ | assumption | refine Ext.alloc ?_ _ | refine Ext.drew ?_ | refine Ext.drewN ?_ _ | refine Ext.setCell ?_ (by first | exact Nat.le_refl _ | (simp; done) | omega) _ | refine Ext.trans ?_ (by assumption))))).mono ?_; rintro e w9 ⟨u9, rfl, hz9, hx9⟩; have s0 := hx9.cell (show wA.drew.cell? _ = _ from p0); have s1 := hx9.cell (show wA.drew.cell? _ = _ from p1); have s2 := hx9.cell (show wA.drew.cell? _ = _ from p2); have RB := FrAt.ext (show FrAt wA.drew _ from RW.out) hx9; obtain ⟨⟨b0, b1, b2⟩, f0, f1, f2⟩ := RB; obtain ⟨a9, c9, rfl⟩ := (Ints.of_owns hz9 (by omega)).form))
  all_goals
    have hsz : w.heap.size + 1 < wA.drew.heap.size := Ext.lt RW.out.1.1
    have ho := ownsRow_setCell_below (ownsRow_setCell_below (ownsRow_setCell_below hz9 (a := ⟨w.heap.size + 1, 0, none⟩) hsz (.int .i64 W)) (a := ⟨w.heap.size + 1, 1, none⟩) hsz (.int .i64 H)) (a := ⟨w.heap.size + 1, 2, none⟩) hsz (.slice a9 zs.length c9)
    have E9 : Ext w w9 := (by repeat (first | exact Ext.refl _ | assumption | refine Ext.alloc ?_ _ | refine Ext.drew ?_ | refine Ext.drewN ?_ _ | refine Ext.setCell ?_ (by first | exact Nat.le_refl _ | (simp; done) | omega) _ | refine Ext.trans ?_ (by assumption)))
    go_wp2
    obtain ⟨g0, g1, g2⟩ := fr_cells W H (.slice a9 zs.length c9) b0 b1 b2
    exact bodyPost_ret (v := .agg #[.int .i64 W, .int .i64 H, .slice a9 zs.length c9]) (by simp [results, Tryd.results17, go_sem, g0, g1, g2]) rfl ⟨_, rfl, own_mono ho (by omega), ((E9.setCell (by simp) _).setCell (by simp) _).setCell (by simp) _⟩
end Go.Proofs.YtmhbmegmlpenkaaDoor

/- kinref10.Edges: its contract over this seat's translation. -/
namespace Go.Proofs.YtmhbmegmlpenkaaDoor
set_option linter.unusedVariables false
set_option linter.unusedSimpArgs false
open Go.RowKit Go.Extern.Stop Go.Stop Go.Extern

/-- two slices of the call's own that share no block -/
def Apart (u v : Value) : Prop := ∀ b, u.ownBlock = some b → v.ownBlock ≠ some b
theorem Apart.symm {u v : Value} (h : Apart u v) : Apart v u := fun b h1 h2 => h b h2 h1
theorem push_two {W W' : World} {base n : Nat} {tv lv v' : Value} {xs : List Value} (hl : W.ownsRow base 3 1 lv n xs) (ap : Apart tv lv) (g : W.grownBy W' tv.ownBlock) (hv : v'.ownBlock = tv.ownBlock ∨ v'.ownBlock = some (W.heap.size + 1)) :
    W'.ownsRow base 3 1 lv n xs ∧ Apart v' lv := by
  refine ⟨own_grownBy hl g ?_, fun b h1 h2 => ?_⟩
  · cases hb : lv.ownBlock with
    | none => exact Or.inl rfl
    | some b => exact Or.inr (fun e => ap b e.symm hb)
  · rcases hv with hv | hv
    · exact ap b (hv.symm.trans h1) h2
    · have e : b = W.heap.size + 1 := Option.some.inj (h1.symm.trans hv)
      have := (hl.lt b h2).2
      omega
theorem rowL_se (k : Nat) (f : Nat → Int) : (rowL (k + 1) f).map (Value.int .i64) = (rowL k f).map (Value.int .i64) ++ [.int .i64 (f k)] := by
  unfold rowL
  rw [List.range_succ, List.map_append, List.map_append]
  rfl
theorem grown_below {W W' : World} {base n : Nat} {tv : Value} {xs : List Value} (ht : W.ownsRow base 3 1 tv n xs) (g : W.grownBy W' tv.ownBlock) (hb : base ≤ W.heap.size) : Below base W W' :=
  Below.grown (Below.refl base W) g hb (fun k hk => (ht.lt k hk).1)
/-- the neighbours of a square, by the document -/
def topF (W : Int) (zs : List Int) (x y : Int) (i : Nat) : Int := placeF W zs (x + i) (y - 1)
def leftF (W : Int) (zs : List Int) (x y : Int) (i : Nat) : Int := placeF W zs (x - 1) (y + i)
/-- has a square neighbours -/
def edOk (W H : Int) (zs : List Int) (x y n : Int) : Prop := may W H zs ∧ (n = 4 ∨ n = 8) ∧ liesB W H x y n = true
def NoEdges (w : World) (e : Ending) (w' : World) : Prop := e = .returned (.tuple #[.slice none 0 0, .slice none 0 0, .int .i64 0]) ∧ Ext w w'
end Go.Proofs.YtmhbmegmlpenkaaDoor

/- kinref.CopyFrames: its contract over this seat's translation. -/
namespace Go.Proofs.YtmhbmegmlpenkaaDoor
set_option linter.unusedVariables false
set_option linter.unusedSimpArgs false
open Go.RowKit Go.Extern.Stop Go.Stop Go.Extern

theorem infoFr : (Tryd.prog.info? 24).map (fun i => (i.zero, i.size, i.bytes)) = some (some (.agg #[.int .i64 0, .int .i64 0, .slice none 0 0]), 3, 40) := by kernel_rfl
theorem push_fr {ops : Array Oper} {rest : List Oper} {o : Oper} {a : Act} {Q : Exit → Act → World → Prop} {Wd : World} {base : Nat} (hgd : o.guard = none) (s y : Operand) (t : TypeId)
    (ho : o.op = .call { callee := .builtin .append, args := #[s, y], argTypes := #[t, t] }) (ht : Tryd.prog.underlying t = some (.slice 24))
    (v : Value) (n : Nat) (xs : List Value) (W H : Int) (su : Value) (hsu : su.oneCell' = true) (hs : a.eval s = v) (hown : Wd.ownsRow base 24 3 v n xs) (hx : a.eval y = .slice (some ⟨Wd.heap.size, 0, none⟩) 1 1) (hb : base ≤ Wd.heap.size) (hn : n ≤ 1000000)
    (h : ∀ v' w', w'.ownsRow base 24 3 v' (n + 1) (xs ++ [.int .i64 W, .int .i64 H, su]) → Wd.grownBy w' v.ownBlock → (v'.ownBlock = v.ownBlock ∨ v'.ownBlock = some (Wd.heap.size + 1)) → wpList Tryd.prog ops Q rest (a.put o.dst v') w') :
    wpList Tryd.prog ops Q (o :: rest) a (Wd.alloc (.cells #[.int .i64 W, .int .i64 H, su] 24)) := by
  obtain ⟨i0, hi, hz0, hz1, hz2⟩ := info_parts infoFr
  refine wpList_append_own_at _ hgd s y t ho base 24 i0 _ 3 40 ht hi hz0 hz1 hz2 rfl (by decide) v n xs hs (hown.alloc _) ⟨Wd.heap.size, 0, none⟩ 1 1 [.int .i64 W, .int .i64 H, su] hx rfl (World.news_of_block (cs := #[.int .i64 W, .int .i64 H, su]) (t := 24) (fr := (0, 0)) (heap_alloc_new Wd _)) ?_ (by unfold maxLen; omega) (by omega) (by simp; omega) ?_
  · intro x hx
    simp only [List.mem_cons, List.not_mem_nil, or_false] at hx
    rcases hx with rfl | rfl | rfl
    · rfl
    · rfl
    · exact hsu
  intro v' w' h1 h2 h3 h4
  refine h v' w' h1 ⟨h2.os, h2.tape, h2.output, Nat.le_trans (by simp) h2.size, fun k hk hne => ?_⟩ (by simpa using h4)
  exact (h2.block k (by simp; omega) hne).trans (Below.heap_alloc Wd _ k hk)
def fcells (L : List Fr) (S : Nat → Value) (k : Nat) : List Value := (List.range k).flatMap fun q => [.int .i64 (frD L q).1, .int .i64 (frD L q).2.1, S q]
theorem fcells_len (L : List Fr) (S : Nat → Value) (k : Nat) : (fcells L S k).length = k * 3 := by
  induction k with
  | zero => rfl
  | succ k ih => unfold fcells at ih ⊢; rw [List.range_succ, List.flatMap_append, List.length_append, ih]; simp; omega
theorem fcells_succ (L : List Fr) (S : Nat → Value) (k : Nat) : fcells L S (k + 1) = fcells L S k ++ [.int .i64 (frD L k).1, .int .i64 (frD L k).2.1, S k] := by
  unfold fcells
  rw [List.range_succ, List.flatMap_append]
  simp
theorem fcells_congr (L : List Fr) {S T : Nat → Value} {k : Nat} (h : ∀ q, q < k → S q = T q) : fcells L S k = fcells L T k := by
  induction k with
  | zero => rfl
  | succ k ih => rw [fcells_succ, fcells_succ, ih fun q hq => h q (by omega), h k (by omega)]
theorem fcells_get (L : List Fr) (S : Nat → Value) (k q : Nat) (hq : q < k) : (fcells L S k)[q * 3]? = some (.int .i64 (frD L q).1) ∧ (fcells L S k)[q * 3 + 1]? = some (.int .i64 (frD L q).2.1) ∧ (fcells L S k)[q * 3 + 2]? = some (S q) := by
  induction k with
  | zero => omega
  | succ k ih =>
    have hl := fcells_len L S k
    rw [fcells_succ]
    by_cases h : q < k
    · obtain ⟨h1, h2, h3⟩ := ih h
      refine ⟨?_, ?_, ?_⟩
      · rw [List.getElem?_append_left (by omega)]; exact h1
      · rw [List.getElem?_append_left (by omega)]; exact h2
      · rw [List.getElem?_append_left (by omega)]; exact h3
    · obtain rfl : q = k := by omega
      refine ⟨?_, ?_, ?_⟩
      · rw [List.getElem?_append_right (by omega), hl, Nat.sub_self]; rfl
      · rw [List.getElem?_append_right (by omega), hl, show q * 3 + 1 - q * 3 = 1 by omega]; rfl
      · rw [List.getElem?_append_right (by omega), hl, show q * 3 + 2 - q * 3 = 2 by omega]; rfl
/-- the copies' rows, each of the call's own, none the list itself -/
def CopOk (w : World) (base : Nat) (L : List Fr) (S : Nat → Value) (k : Nat) (ov : Value) : Prop := ∀ q, q < k → w.ownsRow base 3 1 (S q) (frD L q).2.2.length ((frD L q).2.2.map (Value.int .i64)) ∧ Apart ov (S q)
set_option maxRecDepth 20000 in
set_option maxHeartbeats 4000000 in
theorem copy_frames (L : List Fr) (v : Value) (w : World) (h : Fms w v L) (hl : L.length ≤ 100000) (hsm : Hid (∀ (q : Nat) (f : Fr), L[q]? = some f → f.2.2.length ≤ 1000000)) :
    Calls Tryd.prog 35 #[v] w fun e w' => ∃ u, e = .returned u ∧ Fms w' u L ∧ Ext w w' := by
  obtain ⟨a, cap, rfl⟩ := h.form
  obtain ⟨n, hn⟩ : ∃ n, n = L.length := ⟨_, rfl⟩
  have HN := Lib.hid hn
  rw [← hn] at h hl ⊢
  have AG := Lib.hid h.had
  clear hn
  go_enter Tryd.func35, Tryd.ntmps35
  go_wp2
  go_loopw [3, 4] (fun ov iv wr => ∃ (k : Nat) (S : Nat → Value), k ≤ n ∧ iv = .int .i64 k ∧ Hid (wr.ownsRow w.heap.size 24 3 ov k (fcells L S k)) ∧ Hid (CopOk wr w.heap.size L S k ov) ∧ Ext w wr) (fun _ iv _ => n - (intOf iv).toNat)
  case atStart => exact ⟨0, fun _ => .slice none 0 0, Nat.zero_le _, rfl, World.ownsRow_nil _ _ _ _, fun q hq => absurd hq (Nat.not_lt_zero _), Ext.refl w⟩
  case round =>
    obtain ⟨k, S, hk, rfl, HO, HS, hE⟩ := hrel
    by_cases hlt : k < n
    · obtain ⟨f, hf⟩ : ∃ f, L[k]? = some f := ⟨_, List.getElem?_eq_getElem (by rw [← HN.out]; exact hlt)⟩
      have hfd : frD L k = f := by unfold frD; rw [List.getD, hf]; rfl
      have HFD := Lib.hid hfd
      obtain ⟨g, o, rfl⟩ := AG.out (by omega)
      obtain ⟨fa, fn, fc, p0, p1, p2, p3⟩ := (h.at hf).ext hE
      have hz := hsm.out _ _ hf
      have HI : Hid (Ints wr (.slice fa fn fc) f.2.2) := ⟨p3, Nat.le_trans hz (by decide)⟩
      have CF := Lib.hid (fun w k => copy_frame_own f.1 f.2.1 f.2.2 fa fn fc w k hz)
      clear p3 hf hfd hz
      go_wp2_with fail
      refine (CF.out _ HI.out).mono ?_; rintro e w5 ⟨u5, rfl, ho5, hx5⟩
      obtain ⟨ua, uc, rfl⟩ := own_slice ho5
      have E5 := hE.trans hx5
      have HO5 := Lib.hid (own_ext HO.out hx5)
      have hap : Apart _ (.slice ua f.2.2.length uc) := fun b h1 h2 => absurd (HO.out.lt b h1).2 (by have := (ho5.lt b h2).1; omega)
      have HAP := Lib.hid hap
      have HU5 := Lib.hid (own_mono ho5 hE.size)
      have HS5 : Hid (CopOk w5 w.heap.size L S k _) := fun q hq => ⟨own_ext (HS.out q hq).1 hx5, (HS.out q hq).2⟩
      have hB5 := E5.size
      clear HO HS hE hx5 ho5 p0 p1 p2 hap
      go_wp2_with (at_builtin; refine push_fr rfl _ _ 57 rfl Tryd.underlying57 _ k _ f.1 f.2.1 (.slice ua f.2.2.length uc) rfl rfl HO5.out (by show Value.slice (some ⟨w5.heap.size, 0, none⟩) 1 1 = _; simp) hB5 (by omega) ?_; intro v8 w8 h1 h2 h3; have HU8 := Lib.hid (push_two HU5.out HAP.out h2 h3); have HS8 : Hid (CopOk w8 w.heap.size L S k v8) := fun q hq => push_two (HS5.out q hq).1 (HS5.out q hq).2 h2 h3; have E8 : Ext w w8 := E5.of_below (Below.grown (Below.refl _ _) h2 hB5 (fun k hk => (HO5.out.lt k hk).1)) (Nat.le_refl _); have HO8 := Lib.hid h1; clear h1 h2 h3)
      go_roundw
      case rel =>
        refine ⟨k + 1, fun q => if q = k then .slice ua f.2.2.length uc else S q, by omega, by go_num, ?_, ?_, E8⟩
        · show World.ownsRow _ _ _ _ _ _ _
          rw [fcells_succ, fcells_congr L (T := S) (fun q hq => if_neg (by omega)), if_pos rfl, HFD.out]
          exact HO8.out
        · intro q hq
          by_cases hqk : q = k
          · subst hqk
            simp only [if_true]
            rw [HFD.out]
            exact HU8.out
          · simp only [if_neg hqk]
            exact HS8.out q (by omega)
      case measure => simp [intOf]; omega
    · have hkn : k = n := by omega
      have hkm : ¬ (k : Int) < (n : Int) := by omega
      clear hlt
      go_wp2
      go_ret
      refine ⟨_, rfl, ?_, hE⟩
      obtain ⟨ua, uc, e⟩ := own_slice HO.out
      refine ⟨ua, uc, by rw [← HN.out, ← hkn]; exact e, fun h0 => ?_⟩
      obtain ⟨g, gc, e2⟩ := own_addr2 HO.out (by have := HN.out; omega)
      have e3 := e.symm.trans e2
      simp only [Value.slice.injEq, true_and] at e3
      obtain ⟨rfl, rfl⟩ := e3
      refine ⟨g, 0, rfl, fun q f hq => ?_⟩
      obtain ⟨hql, -⟩ := List.getElem?_eq_some_iff.1 hq
      have hqk : q < k := by have := HN.out; omega
      have hfd : frD L q = f := by unfold frD; rw [List.getD, hq]; rfl
      obtain ⟨g1, g2, g3⟩ := fcells_get L S k q hqk
      obtain ⟨o1, -⟩ := HS.out q hqk
      rw [e2] at HO
      obtain ⟨sa, sc, hS⟩ := own_slice o1
      rw [hS] at g3 o1
      rw [hfd] at g1 g2 g3 o1
      rw [Nat.zero_add]
      exact ⟨sa, _, sc, (own2_cell HO.out g1).1, (own2_cell HO.out g2).1, (own2_cell HO.out g3).1, Row.of_owns o1⟩
end Go.Proofs.YtmhbmegmlpenkaaDoor

/- kinlaw17.StatsWeighs: the walk. -/
namespace Go.Proofs.YtmhbmegmlpenkaaDoor
set_option linter.unusedVariables false
set_option linter.unusedSimpArgs false
open Go.RowKit Go.Extern.Stop Go.Stop Go.Extern

theorem pixB_len {L : List Fr} (h : pixB L = true) : L.length ≤ 40 := by
  unfold pixB at h
  simp only [Bool.and_eq_true, decide_eq_true_eq] at h
  exact h.1
set_option maxHeartbeats 4000000 in
set_option maxRecDepth 20000 in
theorem wei_law (L : List Fr) (G : List (Int × Int)) (v u : Value) (w : World) (hg : EtIs w) (h : Fms w v L) (hr : Row w u G.length (gcells G)) :
    Calls Tryd.prog 12 #[v, u] w fun e w' => e = .returned (.bool true) ∧ Ext w w' := by
  obtain ⟨a, cap, rfl⟩ := h.form
  obtain ⟨b, cap', rfl⟩ := hr.form
  obtain ⟨n, hn⟩ : ∃ n, n = L.length := ⟨_, rfl⟩
  obtain ⟨gn, hgn⟩ : ∃ gn, gn = G.length := ⟨_, rfl⟩
  cases hp : pixB L with
  | false =>
    go_enter Tryd.func12, Tryd.ntmps12
    go_wp2_with fail
    refine (first17_any _ (hg.ext (by repeat (first | exact Ext.refl _ | assumption | refine Ext.alloc ?_ _ | refine Ext.drew ?_ | refine Ext.drewN ?_ _ | refine Ext.setCell ?_ (by first | exact Nat.le_refl _ | (simp; done) | omega) _ | refine Ext.trans ?_ (by assumption))))).mono ?_; rintro e w1 ⟨rfl, hx1⟩
    go_wp2_with fail
    refine (pix_all L _ _ (h.ext (by repeat (first | exact Ext.refl _ | assumption | refine Ext.alloc ?_ _ | refine Ext.drew ?_ | refine Ext.drewN ?_ _ | refine Ext.setCell ?_ (by first | exact Nat.le_refl _ | (simp; done) | omega) _ | refine Ext.trans ?_ (by assumption))))).mono ?_; rintro e w2 ⟨rfl, hx2⟩
    have E2 := hx1.trans hx2
    clear hx1 hx2
    rw [hp]
    go_wp2_with fail
    refine (first17_any _ (hg.ext E2)).mono ?_; rintro e w9 ⟨rfl, hx9⟩
    go_wp2
    go_ret
    exact ⟨rfl, E2.trans hx9⟩
  | true =>
    by_cases h40 : (40 : Int) < (G.length : Int)
    · go_enter Tryd.func12, Tryd.ntmps12
      go_wp2_with fail
      refine (first17_any _ (hg.ext (by repeat (first | exact Ext.refl _ | assumption | refine Ext.alloc ?_ _ | refine Ext.drew ?_ | refine Ext.drewN ?_ _ | refine Ext.setCell ?_ (by first | exact Nat.le_refl _ | (simp; done) | omega) _ | refine Ext.trans ?_ (by assumption))))).mono ?_; rintro e w1 ⟨rfl, hx1⟩
      go_wp2_with fail
      refine (pix_all L _ _ (h.ext (by repeat (first | exact Ext.refl _ | assumption | refine Ext.alloc ?_ _ | refine Ext.drew ?_ | refine Ext.drewN ?_ _ | refine Ext.setCell ?_ (by first | exact Nat.le_refl _ | (simp; done) | omega) _ | refine Ext.trans ?_ (by assumption))))).mono ?_; rintro e w2 ⟨rfl, hx2⟩
      have E2 := hx1.trans hx2
      clear hx1 hx2
      rw [hp]
      go_wp2_with fail
      refine (first17_any _ (hg.ext E2)).mono ?_; rintro e w9 ⟨rfl, hx9⟩
      go_wp2
      go_ret
      exact ⟨rfl, E2.trans hx9⟩
    · have hsm := Lib.hid (pix_small hp)
      have hl := pixB_len hp
      have hl2 : L.length ≤ 1000000 := by omega
      have hg2 : G.length ≤ 1000000 := by omega
      have W1 := Lib.hid (fun v u w (k1 : Fms w v L) (k2 : Row w u G.length (gcells G)) => weights_any L G v u w k1 k2 hsm hl2 hg2)
      have W2 := Lib.hid (fun v u w (k1 : Fms w v L) (k2 : Row w u G.length (gcells G)) => rweights_any L G v u w k1 k2 hsm hl2 hg2)
      have C1 := Lib.hid (fun v w (k1 : Fms w v L) => copy_frames L v w k1 (by omega) hsm)
      have S1 := Lib.hid (fun u v w (k1 : Fms w u L) (k2 : Fms w v L) => frames_same L u v w k1 k2 hl2 hsm)
      obtain ⟨i0, hi, hz0, hz1, hz2⟩ := info_parts infoGrp
      have hgl : gn ≤ 40 := by omega
      rw [← hgn] at hr h40 W1 W2 ⊢
      rw [← hn] at h ⊢
      have HF := Lib.hid h
      have HR := Lib.hid hr
      have HGL : Hid ((gcells G).length = gn * 2) := by show _ = _; rw [gcells_len, hgn, Nat.mul_comm]
      clear h hr hl hl2 hg2 hn hgn
      go_enter Tryd.func12, Tryd.ntmps12
      go_wp2_with fail
      refine (first17_any _ (hg.ext (by repeat (first | exact Ext.refl _ | assumption | refine Ext.alloc ?_ _ | refine Ext.drew ?_ | refine Ext.drewN ?_ _ | refine Ext.setCell ?_ (by first | exact Nat.le_refl _ | (simp; done) | omega) _ | refine Ext.trans ?_ (by assumption))))).mono ?_; rintro e w1 ⟨rfl, hx1⟩
      go_wp2_with fail
      refine (pix_all L _ _ (HF.out.ext (by repeat (first | exact Ext.refl _ | assumption | refine Ext.alloc ?_ _ | refine Ext.drew ?_ | refine Ext.drewN ?_ _ | refine Ext.setCell ?_ (by first | exact Nat.le_refl _ | (simp; done) | omega) _ | refine Ext.trans ?_ (by assumption))))).mono ?_; rintro e w2 ⟨rfl, hx2⟩
      have E2 := hx1.trans hx2
      clear hx1 hx2
      rw [hp]
      go_wp2_with fail
      refine (C1.out _ _ (HF.out.ext E2)).mono ?_; rintro e w3 ⟨u3, rfl, hc3, hx3⟩
      have HC := Lib.hid hc3
      have E3 := E2.trans hx3
      have A3 : Ext w3 (w3.alloc (.cells #[] 69)) := (Ext.refl w3).alloc _
      have hown : Hid ((w3.alloc (.cells #[] 69)).ownsRow w3.heap.size 69 2 (.slice (some ⟨w3.heap.size, 0, none⟩) 0 0) 0 []) := World.ownsRow_made w3 #[] 0 (Nat.le_refl _) (Nat.zero_le _) rfl
      have HR3 := Lib.hid (HR.out.ext (E3.trans A3))
      clear hc3 hx3 E2
      go_wp2_with (at_builtin; refine append_row rfl _ _ 60 rfl 69 i0 _ 2 16 Tryd.underlying60 hi hz0 hz1 hz2 rfl (by decide) _ 0 _ rfl hown.out _ gn (gcells G) rfl HR3.out HGL.out (gcells_one G) (by simp) (by unfold maxLen; omega) (by omega) ?_; intro v' w4 h1 h2 _; have E4 : Ext w w4 := (E3.trans A3).of_below h2 (Nat.le_trans E3.size (Nat.le_refl _)); have hx4 : Ext w3 w4 := Ext.of_below A3 h2 (Nat.le_refl _); have HR4 : Hid (Row w4 v' gn (gcells G)) := (by have := Row.of_owns h1; rw [Nat.zero_add, List.nil_append] at this; exact this); clear h1 h2 A3 hown HR3)
      refine (W1.out _ _ _ (HC.out.ext hx4) HR4.out).mono ?_; rintro e w5 ⟨u5, x5, rfl, hx5, hr5, he5⟩
      have E5 := E4.trans hx5
      go_wp2_with fail
      refine (W2.out _ _ _ (HF.out.ext E5) (HR.out.ext E5)).mono ?_; rintro e w6 ⟨u6, ce, ea, em, ek, rfl, hx6, hr6, he6⟩
      have A6 : Ext w6 (w6.alloc (.cells #[.int .i64 ce, .slice ea em ek] 41)) := (Ext.refl w6).alloc _
      have EA6 := Lib.hid (EAt.new w6 ce (.slice ea em ek) rfl)
      have E6 := (E5.trans hx6).trans A6
      have R5 := Lib.hid (hr5.ext (hx6.trans A6))
      have R6 := Lib.hid (hr6.ext A6)
      have X5 := Lib.hid (he5.ext (hx6.trans A6))
      have X6 := Lib.hid (he6.ext A6)
      have HC6 := Lib.hid (HC.out.ext (hx4.trans (hx5.trans (hx6.trans A6))))
      clear hr5 hr6 he5 he6 hx4 hx5 hx6 A6 E5 E4 E3 HC HR4
      go_wp2_with fail
      revert EA6 E6 R5 R6 X5 X6 HC6
      generalize w6.alloc (.cells #[.int .i64 ce, .slice ea em ek] 41) = w7
      intro EA6 E6 R5 R6 X5 X6 HC6
      refine (first17_any _ (hg.ext E6)).mono ?_; rintro e w8 ⟨rfl, hx8⟩
      go_wp2_with fail
      refine (ints_same _ _ _ _ _ (R5.out.ext hx8) (R6.out.ext hx8)).mono ?_; rintro e w9 ⟨rfl, hx9⟩
      rw [decide_eq_true rfl]
      obtain ⟨⟨s0, s1, -, -⟩, -⟩ := EA6.out.ext (hx8.trans hx9)
      go_wp2_with fail
      refine (same_fall _ _ _ _ _ (hg.ext (E6.trans (hx8.trans hx9))) (X5.out.ext (hx8.trans hx9)) (X6.out.ext (hx8.trans hx9))).mono ?_; rintro e wA ⟨rfl, hxA⟩
      have E9 := (hx8.trans hx9).trans hxA
      go_wp2_with fail
      refine (S1.out _ _ _ (HC6.out.ext E9) (HF.out.ext (E6.trans E9))).mono ?_; rintro e wB ⟨rfl, hxB⟩
      go_wp2
      go_ret
      exact ⟨rfl, (E6.trans E9).trans hxB⟩
end Go.Proofs.YtmhbmegmlpenkaaDoor

/- Arguments opened: a list of frames. -/
namespace Go.Proofs.YtmhbmegmlpenkaaDoor
set_option linter.unusedVariables false
set_option linter.unusedSimpArgs false
open Go.ChangeShapes Go.WideShapes Go.ChangeAt Go.RowKit Go.Joins Go.Deep
section
variable {H : Type} {enc : TypeId × Value → H} {w : World}

set_option maxRecDepth 100000 in
theorem frame_of_trod {sp : Nat → Bool} {fuel : Nat} {cs : List Value} {y : DataW H × List MemPlace} (hsp : ∀ b, sp b = true) (hl : cs.length = 3) (hf : DataW.trod enc Tryd.prog w 0 sp true fuel 24 cs = some y) :
    ∃ (f : Fr) (u : Value), cs = [.int .i64 f.1, .int .i64 f.2.1, u] ∧ Row w u f.2.2.length (f.2.2.map (Value.int .i64)) := by
  obtain ⟨y0, y1, y2, n, -, -, h0, h1, h2⟩ := trod_struct3 Tryd.underlying24 hf
  match cs, hl with
  | [v0, v1, v2], _ =>
    obtain ⟨m0, e0, -, w0⟩ := DataW.trod_int Tryd.underlying3 h0
    obtain ⟨m1, e1, -, w1⟩ := DataW.trod_int Tryd.underlying3 h1
    obtain ⟨zs, hz, -, -⟩ := ints_of_trod hsp h2
    obtain rfl := (List.cons.inj e0).1
    obtain rfl := (List.cons.inj e1).1
    exact ⟨(m0, m1, zs), v2, rfl, hz⟩
set_option maxRecDepth 100000 in
theorem fms_of_reading {r : Reach} {b0 : Nat} {v : Value} {d : DataW H} {p : List MemPlace} (hv : Value.okWide Tryd.prog w r b0 57 v) (h : DataW.Trod enc Tryd.prog w 0 (fun _ => true) true 57 v d p) :
    ∃ L : List Fr, Fms w v L := by
  obtain ⟨a0, l0, c0, rfl⟩ := okWide_slice Tryd.underlying57 hv
  obtain ⟨fuel, hf⟩ := h
  rcases open_slice Tryd.underlying57 hf with ⟨hc, _⟩ | ⟨a, len, cap, m, n, D, Pl, hc, _, hl, hm, hmm, _, hx⟩
  · have hv : Value.slice a0 l0 c0 = .slice none 0 0 := by simpa [Value.cells] using hc
    rw [hv]
    exact ⟨[], Fms.nil w⟩
  · have hv : Value.slice a0 l0 c0 = .slice (some a) len cap := by simpa [Value.cells] using hc
    rw [hv]
    have hC : Tryd.prog.cellsOf 24 = 3 := by kernel_rfl
    have hm' : m = cap := by simpa using hmm
    have each : ∀ i, i < len → ∃ q : Fr × Value, w.cell? (a.add (i * 3)) = some (.int .i64 q.1.1) ∧ w.cell? (a.add (i * 3 + 1)) = some (.int .i64 q.1.2.1) ∧ w.cell? (a.add (i * 3 + 2)) = some q.2 ∧ Row w q.2 q.1.2.2.length (q.1.2.2.map (Value.int .i64)) := by
      intro i hi
      obtain ⟨cs', h1, h2⟩ := hx i (by omega)
      rw [hC] at h1
      obtain ⟨_, hlen, hcell⟩ := World.cells?_some h1
      obtain ⟨f, u, rfl, hr⟩ := frame_of_trod (fun _ => rfl) hlen h2
      have e0 := hcell 0 (by omega)
      have e1 := hcell 1 (by omega)
      have e2 := hcell 2 (by omega)
      rw [add_add] at e0 e1 e2
      exact ⟨(f, u), by simpa using e0, by simpa using e1, by simpa using e2, hr⟩
    obtain ⟨q, hq⟩ := choose_lt each
    refine ⟨(List.range len).map fun i => (q i).1, some a, cap, by simp, fun h0 => ?_⟩
    have h0 : 0 < len := by simpa using h0
    have ha : ∃ g off, a = ⟨g, off, none⟩ := by
      have := (hq 0 h0).1
      obtain ⟨g, off, spot⟩ := a
      have hspot : spot = none := by simpa [Addr.add] using World.cell?_spot this
      subst hspot
      exact ⟨g, off, rfl⟩
    obtain ⟨g, off, rfl⟩ := ha
    refine ⟨g, off, rfl, fun j f hj => ?_⟩
    rw [List.getElem?_map] at hj
    obtain ⟨j', hj', rfl⟩ := Option.map_eq_some_iff.1 hj
    obtain ⟨hlt, e⟩ := List.getElem?_eq_some_iff.1 hj'
    simp at hlt e
    subst e
    obtain ⟨h1, h2, h3, h4⟩ := hq j hlt
    obtain ⟨ra, rc, hu⟩ := h4.form
    rw [Go.WideShapes.add_plain] at h1 h2 h3
    rw [hu] at h3 h4
    exact ⟨ra, _, rc, h1, by rw [Nat.add_assoc]; exact h2, by rw [Nat.add_assoc]; exact h3, h4⟩
end
end Go.Proofs.YtmhbmegmlpenkaaDoor

/- Arguments opened: a list of groups. -/
namespace Go.Proofs.YtmhbmegmlpenkaaDoor
set_option linter.unusedVariables false
set_option linter.unusedSimpArgs false
open Go.ChangeShapes Go.WideShapes Go.ChangeAt Go.RowKit Go.Joins Go.Deep
section
variable {H : Type} {enc : TypeId × Value → H} {w : World}

set_option maxRecDepth 100000 in
theorem group_of_trod {sp : Nat → Bool} {fuel : Nat} {cs : List Value} {y : DataW H × List MemPlace} (hl : cs.length = 2) (hf : DataW.trod enc Tryd.prog w 0 sp true fuel 69 cs = some y) :
    ∃ p : Int × Int, cs = [.int .i64 p.1, .int .i64 p.2] ∧ small p := by
  obtain ⟨y0, y1, n, -, -, h0, h1⟩ := trod_struct2 Tryd.underlying69 hf
  match cs, hl with
  | [v0, v1], _ =>
    obtain ⟨m0, e0, -, w0⟩ := DataW.trod_int Tryd.underlying3 h0
    obtain ⟨m1, e1, -, w1⟩ := DataW.trod_int Tryd.underlying3 h1
    obtain rfl := (List.cons.inj e0).1
    obtain rfl := (List.cons.inj e1).1
    exact ⟨(m0, m1), rfl, (wf_bounds w0).1, (wf_bounds w0).2, (wf_bounds w1).1, (wf_bounds w1).2⟩
theorem gcells_map (f : Nat → Int × Int) (n j : Nat) (u : Value) (h : (gcells ((List.range n).map f))[j]? = some u) : ∃ q, q < n ∧ (j = q * 2 ∧ u = .int .i64 (f q).1 ∨ j = q * 2 + 1 ∧ u = .int .i64 (f q).2) := by
  have hj : j < 2 * n := by
    obtain ⟨hlt, -⟩ := List.getElem?_eq_some_iff.1 h
    rw [gcells_len] at hlt
    simpa using hlt
  have hg := gcells_get ((List.range n).map f) (j / 2) (f (j / 2)) (by rw [List.getElem?_map, List.getElem?_range (by omega)]; rfl)
  refine ⟨j / 2, by omega, ?_⟩
  by_cases h2 : j % 2 = 0
  · have e : j / 2 * 2 = j := by omega
    rw [e, h] at hg
    exact Or.inl ⟨e.symm, Option.some.inj hg.1⟩
  · have e : j / 2 * 2 + 1 = j := by omega
    rw [e, h] at hg
    exact Or.inr ⟨e.symm, Option.some.inj hg.2⟩
set_option maxRecDepth 100000 in
theorem grps_of_reading {r : Reach} {b0 : Nat} {v : Value} {d : DataW H} {p : List MemPlace} (hv : Value.okWide Tryd.prog w r b0 60 v) (h : DataW.Trod enc Tryd.prog w 0 (fun _ => true) true 60 v d p) :
    ∃ G : List (Int × Int), Row w v G.length (gcells G) ∧ ∀ q ∈ G, small q := by
  obtain ⟨a0, l0, c0, rfl⟩ := okWide_slice Tryd.underlying60 hv
  obtain ⟨fuel, hf⟩ := h
  rcases open_slice Tryd.underlying60 hf with ⟨hc, _⟩ | ⟨a, len, cap, m, n, D, Pl, hc, _, hl, hm, hmm, _, hx⟩
  · have hv : Value.slice a0 l0 c0 = .slice none 0 0 := by simpa [Value.cells] using hc
    rw [hv]
    exact ⟨[], Row.nil w, by simp⟩
  · have hv : Value.slice a0 l0 c0 = .slice (some a) len cap := by simpa [Value.cells] using hc
    rw [hv]
    have hC : Tryd.prog.cellsOf 69 = 2 := by kernel_rfl
    have hm' : m = cap := by simpa using hmm
    have each : ∀ i, i < len → ∃ q : Int × Int, w.cell? (a.add (i * 2)) = some (.int .i64 q.1) ∧ w.cell? (a.add (i * 2 + 1)) = some (.int .i64 q.2) ∧ small q := by
      intro i hi
      obtain ⟨cs', h1, h2⟩ := hx i (by omega)
      rw [hC] at h1
      obtain ⟨_, hlen, hcell⟩ := World.cells?_some h1
      obtain ⟨f, rfl, hr⟩ := group_of_trod hlen h2
      have e0 := hcell 0 (by omega)
      have e1 := hcell 1 (by omega)
      rw [add_add] at e0 e1
      exact ⟨f, by simpa using e0, by simpa using e1, hr⟩
    obtain ⟨q, hq⟩ := choose_lt each
    refine ⟨(List.range len).map q, ⟨some a, cap, by simp, by simpa using hl, hm, fun h0 => ?_, fun g off ha j u hu => ?_⟩, fun p hp => ?_⟩
    · have h0 : 0 < len := by simpa using h0
      have := (hq 0 h0).1
      obtain ⟨g, off, spot⟩ := a
      have hspot : spot = none := by simpa [Addr.add] using World.cell?_spot this
      subst hspot
      exact ⟨g, off, rfl⟩
    · obtain rfl := Option.some.inj ha
      obtain ⟨k, hk, hj⟩ := gcells_map q len j u hu
      obtain ⟨h1, h2, -⟩ := hq k hk
      rw [Go.WideShapes.add_plain] at h1 h2
      rcases hj with ⟨rfl, rfl⟩ | ⟨rfl, rfl⟩
      · exact h1
      · exact h2
    · obtain ⟨k, hk, rfl⟩ := List.mem_map.1 hp
      exact (hq k (List.mem_range.1 hk)).2.2
end
end Go.Proofs.YtmhbmegmlpenkaaDoor
