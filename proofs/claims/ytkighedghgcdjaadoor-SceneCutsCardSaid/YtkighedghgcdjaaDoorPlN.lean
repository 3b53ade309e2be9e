/- plane.New: its contract over this seat's translation. -/
import Derived.Test.YtkighedghgcdjaaDoorPlA
namespace Go.Proofs.YtkighedghgcdjaaDoor
set_option linter.unusedVariables false
set_option linter.unusedSimpArgs false
open Go.RowKit Go.Extern.Stop Go.Stop Go.Extern

/-- a frame and an error; the document's -/
def FPost (w : World) (W H : Int) (zs : List Int) (f : Fall) (e : Ending) (w' : World) : Prop := ∃ a n cap x, e = .returned (.tuple #[.agg #[.int .i64 W, .int .i64 H, .slice a n cap], x]) ∧ Ext w w' ∧ Ints w' (.slice a n cap) zs ∧ ErrIs w' f x
def RFPost (w : World) (W H : Int) (zs : List Int) (f : Fall) (e : Ending) (w' : World) : Prop := ∃ a n cap c b m k, e = .returned (.tuple #[.agg #[.int .i64 W, .int .i64 H, .slice a n cap], .agg #[.int .i64 c, .slice b m k]]) ∧ Ext w w' ∧ Ints w' (.slice a n cap) zs ∧ RErrIs w' f c (.slice b m k)
def newOk (W H v : Int) : Bool := sideB W && sideB H && smpB v
theorem new_size {W H : Int} (h : sideB W = true) (k : sideB H = true) : ∃ N : Nat, W * H = (N : Int) ∧ (N = 4 ∨ N = 8 ∨ N = 64 ∨ N = 128 ∨ N = 192 ∨ N = 256 ∨ N = 384 ∨ N = 512 ∨ N = 576 ∨ N = 768 ∨ N = 1024) := by
  refine ⟨(W * H).toNat, ?_, ?_⟩ <;> rcases sideB_cases h with rfl | rfl | rfl | rfl <;> rcases sideB_cases k with rfl | rfl | rfl | rfl <;> decide
set_option maxRecDepth 20000 in
set_option maxHeartbeats 400000 in
theorem new_ok (W H v : Int) (w : World) (h : newOk W H v = true) :
    Calls Tryd.prog 17 #[.int .i64 W, .int .i64 H, .int .i64 v] w (FPost w W H (rowL (W * H).toNat fun _ => v) none) := by
  unfold newOk at h
  simp only [Bool.and_eq_true] at h
  obtain ⟨⟨s1, s2⟩, s3⟩ := h
  obtain ⟨N, hN, hNs⟩ := new_size s1 s2
  have R := Lib.hid (fun u W' k => rep_sz N hNs v u W' k)
  have HT : Hid ((W * H).toNat = N) := by show _ = _; omega
  have hb := side_area s1 s2
  have e1 : IntKind.i64.wrap (W * H) = (N : Int) := by rw [IntKind.wrap_i64]; omega
  have HNl : Hid (N ≤ 1024) := by show _ ≤ _; omega
  have F0 := Lib.hid (FrAt.new w)
  have A0 : Ext w (w.alloc (.cells #[.int .i64 0, .int .i64 0, .slice none 0 0] 24)) := (Ext.refl w).alloc _
  have L1 : Ints ((w.alloc (.cells #[.int .i64 0, .int .i64 0, .slice none 0 0] 24)).alloc (.cells #[.int .i64 v] 3)) (.slice (some ⟨w.heap.size + 1, 0, none⟩) 1 1) [v] := by
    have := Ints.liti (w.alloc (.cells #[.int .i64 0, .int .i64 0, .slice none 0 0] 24)) [v] (by simp)
    simpa using this
  clear hN hNs hb
  go_enter Tryd.func17, Tryd.ntmps17
  go_wp2_with (first | (go_at_call 52; refine (side_any _ _).mono ?_; rintro e w' ⟨rfl, rfl⟩) | (go_at_call 53; refine (smp_any _ _).mono ?_; rintro e w' ⟨rfl, rfl⟩))
  refine (R.out _ _ L1).mono ?_; rintro e w2 ⟨g, rfl, hx2, ho2, hb2, hs2⟩
  have A2 := (((Ext.refl (w.alloc (.cells #[.int .i64 0, .int .i64 0, .slice none 0 0] 24))).alloc (.cells #[.int .i64 v] 3))).trans hx2
  obtain ⟨⟨r0, r1, r2⟩, f0, f1, f2⟩ := F0.out.ext A2
  have E2 : Ext w w2 := A0.trans A2
  have ho3 := own_mono (b := w.heap.size + 1) ho2 (by simp)
  have ho := ownsRow_setCell_below (ownsRow_setCell_below (ownsRow_setCell_below ho3 (a := ⟨w.heap.size, 0, none⟩) (Nat.lt_succ_self _) (.int .i64 W)) (a := ⟨w.heap.size, 1, none⟩) (Nat.lt_succ_self _) (.int .i64 H)) (a := ⟨w.heap.size, 2, none⟩) (Nat.lt_succ_self _) (.slice (some ⟨g, 0, none⟩) N N)
  have HO := Lib.hid ho
  clear ho ho2 ho3 hx2 A0 A2
  go_wp2
  obtain ⟨g0, g1, g2⟩ := fr_cells W H (.slice (some ⟨g, 0, none⟩) N N) r0 r1 r2
  exact bodyPost_ret (v := .tuple #[.agg #[.int .i64 W, .int .i64 H, .slice (some ⟨g, 0, none⟩) N N], .nilIface]) (by simp [results, Tryd.results17, go_sem, g0, g1, g2]) rfl ⟨_, _, _, _, rfl, ((E2.setCell (p := ⟨w.heap.size, 0, none⟩) (Nat.le_refl _) _).setCell (p := ⟨w.heap.size, 1, none⟩) (Nat.le_refl _) _).setCell (p := ⟨w.heap.size, 2, none⟩) (Nat.le_refl _) _, by rw [HT.out]; exact Ints.of_row HO.out (by have := HNl.out; omega), rfl⟩
set_option maxRecDepth 20000 in
set_option maxHeartbeats 2000000 in
theorem new_no (W H v : Int) (w : World) (h : newOk W H v = false) :
    Calls Tryd.prog 17 #[.int .i64 W, .int .i64 H, .int .i64 v] w (FPost w 0 0 [] range) := by
  unfold newOk at h
  cases s1 : sideB W with
  | false =>
    clear h
    have F0 := FrAt.new w
    have A0 : Ext w (w.alloc (.cells #[.int .i64 0, .int .i64 0, .slice none 0 0] 24)) := (Ext.refl w).alloc _
    obtain ⟨⟨r0, r1, r2⟩, f0, f1, f2⟩ := F0
    go_enter Tryd.func17, Tryd.ntmps17
    go_wp2_with (first | (go_at_call 52; refine (side_any _ _).mono ?_; rintro e w' ⟨rfl, rfl⟩) | (go_at_call 53; refine (smp_any _ _).mono ?_; rintro e w' ⟨rfl, rfl⟩))
    exact bodyPost_ret (v := .tuple #[.agg #[.int .i64 0, .int .i64 0, .slice none 0 0], .iface 31 (.int .i64 3)]) (by simp [results, Tryd.results17, go_sem, r0, r1, r2]) rfl ⟨_, _, _, _, rfl, A0, Ints.nil _, ErrIs.code (by decide)⟩
  | true =>
    cases s2 : sideB H with
    | false =>
      clear h
      have F0 := FrAt.new w
      have A0 : Ext w (w.alloc (.cells #[.int .i64 0, .int .i64 0, .slice none 0 0] 24)) := (Ext.refl w).alloc _
      obtain ⟨⟨r0, r1, r2⟩, f0, f1, f2⟩ := F0
      go_enter Tryd.func17, Tryd.ntmps17
      go_wp2_with (first | (go_at_call 52; refine (side_any _ _).mono ?_; rintro e w' ⟨rfl, rfl⟩) | (go_at_call 53; refine (smp_any _ _).mono ?_; rintro e w' ⟨rfl, rfl⟩))
      exact bodyPost_ret (v := .tuple #[.agg #[.int .i64 0, .int .i64 0, .slice none 0 0], .iface 31 (.int .i64 3)]) (by simp [results, Tryd.results17, go_sem, r0, r1, r2]) rfl ⟨_, _, _, _, rfl, A0, Ints.nil _, ErrIs.code (by decide)⟩
    | true =>
      obtain s3 : smpB v = false := by rw [s1, s2] at h; simpa using h
      clear h
      have F0 := FrAt.new w
      have A0 : Ext w (w.alloc (.cells #[.int .i64 0, .int .i64 0, .slice none 0 0] 24)) := (Ext.refl w).alloc _
      obtain ⟨⟨r0, r1, r2⟩, f0, f1, f2⟩ := F0
      go_enter Tryd.func17, Tryd.ntmps17
      go_wp2_with (first | (go_at_call 52; refine (side_any _ _).mono ?_; rintro e w' ⟨rfl, rfl⟩) | (go_at_call 53; refine (smp_any _ _).mono ?_; rintro e w' ⟨rfl, rfl⟩))
      exact bodyPost_ret (v := .tuple #[.agg #[.int .i64 0, .int .i64 0, .slice none 0 0], .iface 31 (.int .i64 3)]) (by simp [results, Tryd.results17, go_sem, r0, r1, r2]) rfl ⟨_, _, _, _, rfl, A0, Ints.nil _, ErrIs.code (by decide)⟩
end Go.Proofs.YtkighedghgcdjaaDoor
