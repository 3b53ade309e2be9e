/- gop.Parse. -/
import Derived.Test.YtlaedbglclmheaaGreatDoorGp6
import Derived.Test.YtlaedbglclmheaaGreatDoorGp3
namespace Go.Proofs.YtlaedbglclmheaaGreatDoor
set_option linter.unusedVariables false
set_option linter.unusedSimpArgs false
open Go.RowKit Go.Extern.Stop Go.Stop Go.Extern

theorem cgs_plain {w : World} {B : Nat} {v : Value} {Z : List (Cd × Value)} (h : w.ownsRow B 61 2 v Z.length (cgC Z)) (hz : ∀ z ∈ Z, Plain z.2) : CdsP w v := by
  intro g off n cap q u e hq hc
  obtain ⟨hl, h1⟩ := h
  rcases h1 with ⟨e2, h0⟩ | ⟨g', cap', cur, e2, hb, hg, h1, h2, hs, ht⟩
  · rw [e2] at e; cases e
  · rw [e2] at e
    simp only [Value.slice.injEq, Option.some.injEq, Addr.mk.injEq, and_true] at e
    obtain ⟨⟨rfl, rfl⟩, rfl, rfl⟩ := e
    obtain ⟨z, hz1⟩ : ∃ z, Z[q]? = some z := ⟨_, List.getElem?_eq_getElem hq⟩
    obtain ⟨-, c1⟩ := cgC_get Z q z hz1
    have hj2 : cur.toList[q * 2 + 1]? = some z.2 := by
      have h9 : (cur.toList.take (Z.length * 2))[q * 2 + 1]? = some z.2 := by rw [ht]; exact c1
      rw [List.getElem?_take] at h9
      split at h9
      · exact h9
      · cases h9
    have h8 : cur[q * 2 + 1]? = some z.2 := by simpa using hj2
    simp only [World.cell?, Nat.zero_add, hg] at hc
    have h7 : cur[q * 2 + 1]? = some u := by simpa using hc
    rw [h8] at h7
    rw [← Option.some.inj h7]
    exact hz z (List.mem_of_getElem? hz1)
theorem GkU.same {p : Nat} {v w0 w w' : World} {s : GS} {Q : World → Prop} (h : GkU p w0 w s Q) (hv : Ext v w') (hb : v.heap.size ≤ w0.heap.size) (hs : ∀ k, w0.heap.size ≤ k → w'.heap[k]? = w.heap[k]?) : GkU p v w' s Q := by
  obtain ⟨cv, Z, P, ⟨F, h1, h2, h3⟩, h4, h5⟩ := h
  exact ⟨cv, Z, P, ⟨F, ((gkO p).sep HoF.obj).same h1 (fun i hi => hs i (h3 i hi)), hv, fun i hi => Nat.le_trans hb (h3 i hi)⟩, h4, h5⟩
theorem GkU.cds {p : Nat} {w0 w : World} {s : GS} {Q : World → Prop} (h : GkU p w0 w s Q) : ∃ cv, BoxIs w p #[.int .i64 s.1.1, .int .i64 s.1.2.1, .int .i64 s.1.2.2, cv] 26 ∧ Cds w cv s.2 ∧ CdsP w cv := by
  obtain ⟨cv, Z, P, h1, h2, h3⟩ := h
  have hown := rw_own (Uno.assoc (bag_swap h1))
  have hz := (h3 w h1.held).1
  refine ⟨cv, bo_box (Uno.assoc h1), ?_, cgs_plain hown (fun z hm => (hz z hm).2)⟩
  rw [← h2]
  refine cgs_own hown (fun z hm => ?_)
  obtain ⟨hb, hp⟩ := hz z hm
  obtain ⟨a, c, e⟩ := hb.form
  exact ⟨⟨a, _, c, e⟩, hb.1, hb.2.1⟩
theorem GkU.new {p : Nat} (w : World) (hp : p = w.heap.size) : GkU p w (w.alloc (.cells #[.int .i64 0, .int .i64 0, .int .i64 0, .slice none 0 0] 26)) gs0 (fun _ => True) := by
  subst hp
  have h1 := (Uno.first (RwF.nil 61 2 w) (Ext.refl w) (fun _ h => h.elim)).add (RwF.obj 61 2) ((Ext.refl w).alloc (.cells #[.int .i64 0, .int .i64 0, .int .i64 0, .slice none 0 0] 26)) (BoF.new w #[.int .i64 0, .int .i64 0, .int .i64 0, .slice none 0 0] 26) (by rintro k rfl; exact Nat.le_refl _)
  exact ⟨.slice none 0 0, [], fun _ => True, h1.bag (gkO w.heap.size) (fun _ => trivial), rfl, fun W _ => ⟨fun z hz => (List.not_mem_nil hz).elim, trivial⟩⟩
def GpsP (w : World) (R : Fall × GS) (e : Ending) (w' : World) : Prop := ∃ v x, e = .returned (.tuple #[.agg #[.int .i64 R.2.1.1, .int .i64 R.2.1.2.1, .int .i64 R.2.1.2.2, v], x]) ∧ (Cds w' v R.2.2 ∧ CdsP w' v) ∧ ErrIs w' R.1 x ∧ Ext w w'
theorem gps_bad {bs : List Nat} {e : List (ByteArray × Int) × Int} (h : (gpsV bs).1 = some e) : (gpsV bs).2 = gs0 := by
  unfold gpsV gfin at h ⊢
  split at h
  · rename_i h1
    rw [if_pos h1]
  · rename_i h1
    rw [if_neg h1]
    split at h
    · rfl
    · split at h
      · cases h
      · rename_i h2
        rw [if_neg h2]
set_option maxRecDepth 20000 in
set_option maxHeartbeats 8000000 in
theorem gparse_any (bs : List Nat) (v : Value) (w : World) (hnb : NbIs w) (hb : Bys w v bs) (hl : bs.length ≤ 1000000) : Calls Tryz.prog 24 #[v] w (GpsP w (gpsV bs)) := by
  obtain ⟨w0, hw0⟩ : ∃ z, w.alloc (.cells #[.int .i64 0, .int .i64 0, .int .i64 0, .slice none 0 0] 26) = z := ⟨_, rfl⟩
  have B0 := BoxIs.new w #[.int .i64 0, .int .i64 0, .int .i64 0, .slice none 0 0] 26
  have X0 : Ext w w0 := by rw [← hw0]; exact (Ext.refl w).alloc _
  have hsz : w0.heap.size = w.heap.size + 1 := by rw [← hw0]; simp
  rw [hw0] at B0
  have UP := Lib.hid (gunits_any (w.heap.size + 1) bs v w0 _ (hnb.ext X0) (hb.ext X0) hl (GkU.new w0 hsz.symm))
  have HW0 := Lib.hid hw0
  have HB0 := Lib.hid B0
  have HX0 := Lib.hid X0
  have HSZ := Lib.hid hsz
  obtain ⟨R, hR⟩ : ∃ R, gpsV bs = R := ⟨_, rfl⟩
  have HBAD : Hid (∀ e, R.1 = some e → R.2 = gs0) := fun e he => by rw [← hR] at he ⊢; exact gps_bad he
  rw [hR] at UP ⊢
  clear hw0 B0 X0 hsz hb hnb hR
  go_enter Tryz.func24, Tryz.ntmps24
  go_wp2_with fail
  rw [HW0.out]
  refine (UP.out).mono ?_; rintro e w5 ⟨x, s, Q, rfl, hx, hg, hs⟩
  have B5 := HB0.out.ext hg.out
  have r0 := B5.cell (i := 0) (v := .int .i64 0) rfl
  have r1 := B5.cell (i := 1) (v := .int .i64 0) rfl
  have r2 := B5.cell (i := 2) (v := .int .i64 0) rfl
  have r3 := B5.cell (i := 3) (v := .slice none 0 0) rfl
  have f0 := B5.free (i := 0)
  have f1 := B5.free (i := 1)
  have f2 := B5.free (i := 2)
  have f3 := B5.free (i := 3)
  have E5 := HX0.out.trans hg.out
  have HE5 := Lib.hid E5
  obtain ⟨⟨rf, s', L'⟩, rfl⟩ : ∃ z, R = z := ⟨_, rfl⟩
  clear UP B5
  have hsame : ∀ (a b c d : Value) (k : Nat), w0.heap.size ≤ k → ((((w5.setCell ⟨w.heap.size, 0, none⟩ a).setCell ⟨w.heap.size, 1, none⟩ b).setCell ⟨w.heap.size, 2, none⟩ c).setCell ⟨w.heap.size, 3, none⟩ d).heap[k]? = w5.heap[k]? := fun a b c d k hk => by
    have hne : k ≠ w.heap.size := by have := HSZ.out; omega
    exact (((Below.heap_setCell _ ⟨w.heap.size, 3, none⟩ d k hne).trans (Below.heap_setCell _ ⟨w.heap.size, 2, none⟩ c k hne)).trans (Below.heap_setCell _ ⟨w.heap.size, 1, none⟩ b k hne)).trans (Below.heap_setCell _ ⟨w.heap.size, 0, none⟩ a k hne)
  have HSM := Lib.hid hsame
  have hext : ∀ (a b c d : Value), Ext w ((((w5.setCell ⟨w.heap.size, 0, none⟩ a).setCell ⟨w.heap.size, 1, none⟩ b).setCell ⟨w.heap.size, 2, none⟩ c).setCell ⟨w.heap.size, 3, none⟩ d) := fun a b c d =>
    (((E5.setCell (p := ⟨w.heap.size, 0, none⟩) (Nat.le_refl _) a).setCell (p := ⟨w.heap.size, 1, none⟩) (Nat.le_refl _) b).setCell (p := ⟨w.heap.size, 2, none⟩) (Nat.le_refl _) c).setCell (p := ⟨w.heap.size, 3, none⟩) (Nat.le_refl _) d
  have HEX := Lib.hid hext
  clear hsame hext E5
  have hx' : ErrIs w5 rf x := hx
  have hs' : rf = none → s = (s', L') := hs
  cases rf with
  | some e =>
    obtain ⟨xt, xv, rfl⟩ := ErrIs.ne hx'
    have h0 : (s', L') = gs0 := HBAD.out e rfl
    obtain ⟨rfl, rfl⟩ := Prod.mk.inj h0
    have HX := Lib.hid hx'
    have HY := Lib.hid (ucells r0 r1 r2 r3 (.int .i64 0) (.int .i64 0) (.int .i64 0) (.slice none 0 0))
    have HER : Hid (ErrIs ((((w5.setCell ⟨w.heap.size, 0, none⟩ (.int .i64 0)).setCell ⟨w.heap.size, 1, none⟩ (.int .i64 0)).setCell ⟨w.heap.size, 2, none⟩ (.int .i64 0)).setCell ⟨w.heap.size, 3, none⟩ (.slice none 0 0)) (some e) (.iface xt xv)) := ⟨IsErr.unit r0 0 _ _ _ HX.out.1, HX.out.2⟩
    clear hx hx' hs hs' hg HX HBAD
    go_wp2
    obtain ⟨y0, y1, y2, y3⟩ := HY.out
    exact bodyPost_ret (v := .tuple #[.agg #[.int .i64 0, .int .i64 0, .int .i64 0, .slice none 0 0], .iface xt xv]) (by simp [results, Tryz.results24, go_sem, y0, y1, y2, y3]) rfl ⟨_, _, rfl, ⟨Cds.nil _, fun g off n cap q u e => by cases e⟩, HER.out, HEX.out _ _ _ _⟩
  | none =>
    obtain rfl : x = .nilIface := hx'
    obtain rfl := hs' rfl
    obtain ⟨cv, B6, hcd, -⟩ := hg.cds
    obtain ⟨ca, cc, rfl⟩ := hcd.form
    have k0 := B6.cell (i := 0) (v := .int .i64 s'.1) rfl
    have k1 := B6.cell (i := 1) (v := .int .i64 s'.2.1) rfl
    have k2 := B6.cell (i := 2) (v := .int .i64 s'.2.2) rfl
    have k3 := B6.cell (i := 3) (v := .slice ca L'.length cc) rfl
    have HY := Lib.hid (ucells r0 r1 r2 r3 (.int .i64 s'.1) (.int .i64 s'.2.1) (.int .i64 s'.2.2) (.slice ca L'.length cc))
    have hg9 := hg.same (HEX.out (.int .i64 s'.1) (.int .i64 s'.2.1) (.int .i64 s'.2.2) (.slice ca L'.length cc)) HX0.out.size (HSM.out (.int .i64 s'.1) (.int .i64 s'.2.1) (.int .i64 s'.2.2) (.slice ca L'.length cc))
    obtain ⟨cv9, B9, hc9, hp9⟩ := hg9.cds
    have e9 : cv9 = .slice ca L'.length cc := by
      have h1 := (HSM.out (.int .i64 s'.1) (.int .i64 s'.2.1) (.int .i64 s'.2.2) (.slice ca L'.length cc) (w.heap.size + 1) (by rw [HSZ.out]; exact Nat.le_refl _)).trans B6
      have h2 := B9.symm.trans h1
      simp only [Option.some.injEq, Obj.cells.injEq, and_true] at h2
      have h3 : (#[Value.int .i64 s'.1, .int .i64 s'.2.1, .int .i64 s'.2.2, cv9] : Array Value)[3]? = (#[Value.int .i64 s'.1, .int .i64 s'.2.1, .int .i64 s'.2.2, .slice ca L'.length cc] : Array Value)[3]? := by rw [h2]
      exact Option.some.inj h3
    subst e9
    have HC9 := Lib.hid hc9
    have HP9 := Lib.hid hp9
    clear hx hs hs' hg hg9 hc9 hp9 B9 B6 hcd HBAD
    go_wp2
    obtain ⟨y0, y1, y2, y3⟩ := HY.out
    exact bodyPost_ret (v := .tuple #[.agg #[.int .i64 s'.1, .int .i64 s'.2.1, .int .i64 s'.2.2, .slice ca L'.length cc], .nilIface]) (by simp [results, Tryz.results24, go_sem, y0, y1, y2, y3]) rfl ⟨_, _, rfl, ⟨HC9.out, HP9.out⟩, rfl, HEX.out _ _ _ _⟩
end Go.Proofs.YtlaedbglclmheaaGreatDoor
