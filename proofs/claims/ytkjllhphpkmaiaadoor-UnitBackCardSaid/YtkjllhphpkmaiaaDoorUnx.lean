/- unit.Next: its contract over this seat's translation. -/
import Derived.Test.YtkjllhphpkmaiaaDoorUrd
namespace Go.Proofs.YtkjllhphpkmaiaaDoor
set_option linter.unusedVariables false
set_option linter.unusedSimpArgs false
open Go.RowKit Go.Extern.Stop Go.Stop Go.Extern

def unS : ByteArray := ⟨#[117, 110, 105, 116]⟩
theorem rdU_end (c : List Nat) (h : 0 < c.length) : (rdU c).2.2.2 ≤ c.length := by
  unfold rdU
  split
  · exact h
  · split
    · exact Nat.zero_le _
    · split
      · exact Nat.zero_le _
      · split
        · exact Nat.zero_le _
        · split
          · exact Nat.zero_le _
          · show lnB c + 8 ≤ c.length
            omega
/-- what Next says: why there is none; the kind, the data, the place, the end -/
def nxU (bs : List Nat) (a : Int) : Fall × Nat × List Nat × Int × Int :=
  if a < 0 ∨ (bs.length : Int) ≤ a then (some ([], 7), 0, [], 0, 0)
  else if (rdU (bs.drop a.toNat)).1 = 0 then (none, (rdU (bs.drop a.toNat)).2.1, (rdU (bs.drop a.toNat)).2.2.1, a, ((rdU (bs.drop a.toNat)).2.2.2 : Int) + a)
  else (some ([(unS, a)], (rdU (bs.drop a.toNat)).1), 0, [], 0, 0)
def NxPost (w : World) (R : Fall × Nat × List Nat × Int × Int) (e : Ending) (w' : World) : Prop := ∃ u x, e = .returned (.tuple #[.agg #[.int .i64 (R.2.1 : Int), u, .int .i64 R.2.2.2.1, .int .i64 R.2.2.2.2], x]) ∧ w'.ownsRow w.heap.size 5 1 u R.2.2.1.length (byC R.2.2.1) ∧ ErrIs w' R.1 x ∧ Ext w w'
theorem IsErr.set1 {w : World} {R i : Nat} {x : Int} (hi : i < 4) (u0 : w.cell? ⟨R, 0, none⟩ = some (.int .i64 x)) (q : Value) : ∀ {p : List (ByteArray × Int)} {c : Int} {v : Value}, IsErr w p c v → IsErr (w.setCell ⟨R, i, none⟩ q) p c v
  | [], _, _, h => h
  | (s, n) :: p, c, v, ⟨b, u, h1, h2, h3, h4, h5⟩ => by
    have hb : R ≠ b := by
      rintro rfl
      rw [u0] at h2
      cases h2
    have o : ∀ j, (w.setCell ⟨R, i, none⟩ q).cell? ⟨b, j, none⟩ = w.cell? ⟨b, j, none⟩ := fun j => World.cell?_setCell_other w _ _ q (fun h => hb (congrArg Addr.block h))
    exact ⟨b, u, h1, by rw [o]; exact h2, by rw [o]; exact h3, by rw [o]; exact h4, IsErr.set1 hi u0 q h5⟩
theorem IsErr.unit {w : World} {R : Nat} {x : Int} (u0 : w.cell? ⟨R, 0, none⟩ = some (.int .i64 x)) (y : Int) (a b d : Value) {p : List (ByteArray × Int)} {c : Int} {v : Value} (h : IsErr w p c v) : IsErr ((((w.setCell ⟨R, 0, none⟩ (.int .i64 y)).setCell ⟨R, 1, none⟩ a).setCell ⟨R, 2, none⟩ b).setCell ⟨R, 3, none⟩ d) p c v := by
  have s0 : (w.setCell ⟨R, 0, none⟩ (.int .i64 y)).cell? ⟨R, 0, none⟩ = some (.int .i64 y) := World.cell?_setCell_same _ _ _ u0
  have o : ∀ (w : World) (i : Nat) (u : Value), i ≠ 0 → (w.setCell ⟨R, i, none⟩ u).cell? ⟨R, 0, none⟩ = w.cell? ⟨R, 0, none⟩ := fun w i u h => cell_off_ne u h
  have h1 := IsErr.set1 (i := 0) (by decide) u0 (.int .i64 y) h
  have h2 := IsErr.set1 (i := 1) (by decide) s0 a h1
  have s2 := (o (w.setCell ⟨R, 0, none⟩ (.int .i64 y)) 1 a (by decide)).trans s0
  have h3 := IsErr.set1 (i := 2) (by decide) s2 b h2
  have s3 := (o _ 2 b (by decide)).trans s2
  exact IsErr.set1 (i := 3) (by decide) s3 d h3
set_option maxHeartbeats 4000000 in
set_option maxRecDepth 20000 in
theorem next_any (bs : List Nat) (at' : Int) (v : Value) (w : World) (hnb : NbIs w) (h : Bys w v bs) : Calls Tryd.prog 21 #[v, .int .i64 at'] w (NxPost w (nxU bs at')) := by
  obtain ⟨a, cap, rfl⟩ := h.form
  obtain ⟨n, hn⟩ : ∃ n, bs.length = n := ⟨_, rfl⟩
  rw [hn] at h ⊢
  have hl := h.2.2
  have hcp := h.caps
  have HB := Lib.hid h
  have HN := Lib.hid hn
  have HNB := Lib.hid hnb
  have A1 : Ext w (w.alloc (.cells #[.int .i64 0, .slice none 0 0, .int .i64 0, .int .i64 0] 44)) := (Ext.refl w).alloc _
  have HE1 := Lib.hid A1
  have HU1 := Lib.hid (UBox.new w 0 (.slice none 0 0) 0 0 44)
  by_cases h0 : at' < 0
  · have HR : Hid (nxU bs at' = (some ([], 7), 0, [], 0, 0)) := by show _ = _; unfold nxU; rw [if_pos (.inl h0)]
    clear h hn hnb A1
    have HF := Lib.hid (ErrIs.code (w := (w.alloc (.cells #[.int .i64 0, .slice none 0 0, .int .i64 0, .int .i64 0] 44))) (c := 7) (by decide))
    go_enter Tryd.func21, Tryd.ntmps21
    go_wp2
    exact bodyPost_ret (v := .tuple #[.agg #[.int .i64 0, .slice none 0 0, .int .i64 0, .int .i64 0], .iface 29 (.int .i64 7)]) (by simp [results, Tryd.results21, go_sem]) rfl ⟨.slice none 0 0, _, by rw [HR.out]; rfl, by rw [HR.out]; exact World.ownsRow_nil _ _ _ _, by rw [HR.out]; exact HF.out, HE1.out⟩
  · by_cases h1 : (n : Int) ≤ at'
    · have HR : Hid (nxU bs at' = (some ([], 7), 0, [], 0, 0)) := by show _ = _; unfold nxU; rw [if_pos (.inr (by rw [hn]; exact h1))]
      clear h hn hnb A1
      have HF := Lib.hid (ErrIs.code (w := (w.alloc (.cells #[.int .i64 0, .slice none 0 0, .int .i64 0, .int .i64 0] 44))) (c := 7) (by decide))
      go_enter Tryd.func21, Tryd.ntmps21
      go_wp2
      exact bodyPost_ret (v := .tuple #[.agg #[.int .i64 0, .slice none 0 0, .int .i64 0, .int .i64 0], .iface 29 (.int .i64 7)]) (by simp [results, Tryd.results21, go_sem]) rfl ⟨.slice none 0 0, _, by rw [HR.out]; rfl, by rw [HR.out]; exact World.ownsRow_nil _ _ _ _, by rw [HR.out]; exact HF.out, HE1.out⟩
    · obtain ⟨k, rfl⟩ : ∃ k : Nat, at' = (k : Int) := ⟨at'.toNat, by omega⟩
      obtain ⟨g, off, rfl⟩ := h.had (by omega)
      have hdl : (bs.drop k).length = n - k := by rw [List.length_drop, hn]
      have hcut := h.cut (lo := k) (hi := n) (by omega) (Nat.le_refl _)
      rw [List.take_of_length_le (by rw [hdl]; exact Nat.le_refl _)] at hcut
      have HCT := Lib.hid (hcut.ext A1)
      have HN1 := Lib.hid (hnb.ext A1)
      have hend := rdU_end (bs.drop k) (by rw [hdl]; omega)
      rw [hdl] at hend
      have hR0 : nxU bs (k : Int) = if (rdU (bs.drop k)).1 = 0 then (none, (rdU (bs.drop k)).2.1, (rdU (bs.drop k)).2.2.1, (k : Int), ((rdU (bs.drop k)).2.2.2 : Int) + (k : Int)) else (some ([(unS, (k : Int))], (rdU (bs.drop k)).1), 0, [], 0, 0) := by
        unfold nxU
        rw [if_neg (by rw [hn]; omega)]
        rfl
      obtain ⟨⟨C, K, D, E⟩, hCKDE⟩ : ∃ R, rdU (bs.drop k) = R := ⟨_, rfl⟩
      rw [hCKDE] at hR0 hend
      have hend' : E ≤ n - k := hend
      have HCK := Lib.hid hCKDE
      have m1 : IntKind.i64.wrap (k : Int) = (k : Int) := by rw [IntKind.wrap_i64]; omega
      have m2 : IntKind.i64.wrap ((E : Int) + (k : Int)) = (E : Int) + (k : Int) := by rw [IntKind.wrap_i64]; omega
      have x1 : (0 : Int) ≤ (k : Int) := by omega
      have x2 : (k : Int) < (n : Int) := by omega
      have x3 : (k : Int) ≤ (n : Int) := by omega
      have x4 : (k : Int) ≤ (cap : Int) := by omega
      have nk0 : 0 < n - k := by omega
      clear hcut hend hCKDE h hn hnb A1 hdl
      by_cases hC : C = 0
      · subst hC
        have HR : Hid (nxU bs (k : Int) = (none, K, D, (k : Int), (E : Int) + (k : Int))) := hR0
        clear hR0
        go_enter Tryd.func21, Tryd.ntmps21
        go_wp2_with (go_at_call 34; refine (read_any (bs.drop k) _ _ _ _ _ HN1.out HCT.out nk0).mono ?_; rw [HCK.out]; rintro e w2 ⟨u, rfl, hown, hx⟩; obtain ⟨ca, cm, cc, rfl⟩ := own_slc hown; have HO := Lib.hid hown; have HX := Lib.hid hx; have HUc := Lib.hid ((HU1.out.ext hx).ext ((Ext.refl w2).alloc (.cells #[.int .i64 (K : Int), .slice ca cm cc, .int .i64 (k : Int), .int .i64 ((E : Int) + (k : Int))] 44))); obtain ⟨⟨u0, u1, u2, u3⟩, u4, u5, u6, u7⟩ := HUc.out; clear hown hx)
        have HE9 := Lib.hid ((((((HE1.out.trans HX.out).alloc (.cells #[.int .i64 (K : Int), .slice ca cm cc, .int .i64 (k : Int), .int .i64 ((E : Int) + (k : Int))] 44)).setCell (p := ⟨w.heap.size, 0, none⟩) (Nat.le_refl _) (.int .i64 (K : Int))).setCell (p := ⟨w.heap.size, 1, none⟩) (Nat.le_refl _) (.slice ca cm cc)).setCell (p := ⟨w.heap.size, 2, none⟩) (Nat.le_refl _) (.int .i64 (k : Int))).setCell (p := ⟨w.heap.size, 3, none⟩) (Nat.le_refl _) (.int .i64 ((E : Int) + (k : Int))))
        obtain ⟨y0, y1, y2, y3⟩ := ucells u0 u1 u2 u3 (.int .i64 (K : Int)) (.slice ca cm cc) (.int .i64 (k : Int)) (.int .i64 ((E : Int) + (k : Int)))
        refine bodyPost_ret (v := .tuple #[.agg #[.int .i64 (K : Int), .slice ca cm cc, .int .i64 (k : Int), .int .i64 ((E : Int) + (k : Int))], .nilIface]) (by simp [results, Tryd.results21, go_sem, y0, y1, y2, y3]) rfl ⟨.slice ca cm cc, .nilIface, ?_, ?_, by rw [HR.out]; rfl, HE9.out⟩
        · simp only [HR.out]
        · have hlen : (nxU bs (k : Int)).2.2.1 = D := by rw [HR.out]
          rw [hlen]
          have h9 := HO.out
          exact owns_base (fin_own (R := w.heap.size) (h9.alloc _) (by simp) _ _ _ _) (Nat.le_succ _)
      · have HR : Hid (nxU bs (k : Int) = (some ([(unS, (k : Int))], C), 0, [], 0, 0)) := by show _ = _; rw [hR0, if_neg hC]
        have hCi : ((C : Int) != 0) = true := by rw [bne_iff_ne]; omega
        have hC1 : (C : Int) ≠ 0 := by omega
        clear hR0
        go_enter Tryd.func21, Tryd.ntmps21
        go_wp2_with (first
          | (go_at_call 34; refine (read_any (bs.drop k) _ _ _ _ _ HN1.out HCT.out nk0).mono ?_; rw [HCK.out]; rintro e w2 ⟨u, rfl, hown, hx⟩; obtain ⟨ca, cm, cc, rfl⟩ := own_slc hown; have HX := Lib.hid hx; clear hown hx)
          | (go_at_call 35; refine (in_err _ _ [] (C : Int) _ _ (ErrIs.code hC1).1).mono ?_; rintro e w3 ⟨z, rfl, hx3, hz⟩; have HX3 := Lib.hid hx3; have HZ := Lib.hid hz; have HUc := Lib.hid (((HU1.out.ext HX.out).ext ((Ext.refl w2).alloc (.cells #[.int .i64 (K : Int), .slice ca cm cc, .int .i64 0, .int .i64 (E : Int)] 44))).ext hx3); obtain ⟨⟨u0, u1, u2, u3⟩, u4, u5, u6, u7⟩ := HUc.out; clear hx3 hz))
        have HE9 := Lib.hid (((((((HE1.out.trans HX.out).alloc (.cells #[.int .i64 (K : Int), .slice ca cm cc, .int .i64 0, .int .i64 (E : Int)] 44)).trans HX3.out).setCell (p := ⟨w.heap.size, 0, none⟩) (Nat.le_refl _) (.int .i64 0)).setCell (p := ⟨w.heap.size, 1, none⟩) (Nat.le_refl _) (.slice none 0 0)).setCell (p := ⟨w.heap.size, 2, none⟩) (Nat.le_refl _) (.int .i64 0)).setCell (p := ⟨w.heap.size, 3, none⟩) (Nat.le_refl _) (.int .i64 0))
        obtain ⟨y0, y1, y2, y3⟩ := ucells u0 u1 u2 u3 (.int .i64 0) (.slice none 0 0) (.int .i64 0) (.int .i64 0)
        refine bodyPost_ret (v := .tuple #[.agg #[.int .i64 0, .slice none 0 0, .int .i64 0, .int .i64 0], z]) (by simp [results, Tryd.results21, go_sem, y0, y1, y2, y3]) rfl ⟨.slice none 0 0, z, ?_, ?_, ?_, HE9.out⟩
        · simp only [HR.out]; rfl
        · have hlen : (nxU bs (k : Int)).2.2.1 = [] := by rw [HR.out]
          rw [hlen]
          exact World.ownsRow_nil _ _ _ _
        · have h1 : (nxU bs (k : Int)).1 = some ([(unS, (k : Int))], C) := by rw [HR.out]
          rw [h1]
          exact ⟨IsErr.unit u0 0 _ _ _ HZ.out, hC1, by simp⟩
end Go.Proofs.YtkjllhphpkmaiaaDoor
