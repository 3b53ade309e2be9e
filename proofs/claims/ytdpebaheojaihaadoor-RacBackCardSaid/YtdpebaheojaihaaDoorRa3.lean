/- (*rac.Encoder).carry, shift: contracts over this seat's translation. -/
import Derived.Test.YtdpebaheojaihaaDoorRa2
import Derived.Deep.RegionLaw
namespace Go.Proofs.YtdpebaheojaihaaDoor
set_option linter.unusedVariables false
set_option linter.unusedSimpArgs false
open Go.RowKit Go.Extern.Stop Go.Stop Go.Extern

theorem step_push_u8 {ops : Array Oper} {o : Oper} {a : Act} {K : Act → World → Prop} {Q : Exit → Act → World → Prop} {X : Prop} {W : World} {base : Nat} (hgd : o.guard = none) (s y : Operand) (t : TypeId)
    (ho : o.op = .call { callee := .builtin .append, args := #[s, y], argTypes := #[t, t] }) (ht : Tryd.prog.underlying t = some (.slice 5))
    (v : Value) (n : Nat) (xs : List Value) (x : Int) (hs : a.eval s = v) (hown : W.ownsRow base 5 1 v n xs) (hx : a.eval y = .slice (some ⟨W.heap.size, 0, none⟩) 1 1) (hb : base ≤ W.heap.size) (hn : n ≤ 1000000000)
    (h : ∀ g cap w', w'.ownsRow base 5 1 (.slice (some ⟨g, 0, none⟩) (n + 1) cap) (n + 1) (xs ++ [.int .u8 x]) → W.grownBy w' v.ownBlock → K (a.put o.dst (.slice (some ⟨g, 0, none⟩) (n + 1) cap)) w') :
    if Region.wanted o (yielded ops a.tmps) = true then Oper.wp Tryd.prog o a ((W.alloc (.cells #[.int .u8 x] 5)).drew) K Q else X := by
  obtain ⟨i0, hi, hz0, hz1, hz2⟩ := info_parts infoU8
  have hown' : ((W.alloc (.cells #[.int .u8 x] 5)).drew).ownsRow base 5 1 v n xs := (hown.alloc _).drew
  refine step_append_lies _ hgd s y t ho base 5 i0 (.int .u8 0) 1 1 ht hi hz0 hz1 hz2 rfl (by decide) v n xs hs hown' ⟨W.heap.size, 0, none⟩ 1 1 [.int .u8 x] hx rfl (World.news_of_block (cs := #[.int .u8 x]) (t := 5) (fr := (0, 0)) (heap_alloc_new W _)) ?_ (by decide) (by unfold maxLen; omega) (by omega) (by simp; omega) (W.heap.size + 1) (by simp) ?_
  · intro u hu
    simp only [List.mem_cons, List.not_mem_nil, or_false] at hu
    subst hu
    rfl
  intro g cap w' h1 h2 h3 _
  refine h g cap w' h1 ⟨h2.os, h2.tape, h2.output, Nat.le_trans (by simp) h2.size, fun k hk hne => ?_⟩
  exact (h2.block k (by simp; omega) hne).trans (Below.heap_alloc W _ k hk)
def EnPost (w : World) (b B : Nat) (s : Ec) (e : Ending) (w' : World) : Prop := e = .returned (.tuple #[]) ∧ EcAt w' b B s ∧ WKp b B w w'
set_option maxRecDepth 20000 in
set_option maxHeartbeats 4000000 in
theorem carry_any (b B N : Nat) (s : Ec) (w : World) (h : EcAt w b B s) (hk : okE N s) (hN : N ≤ 1000000) : Calls Tryd.prog 45 #[.pointer (some ⟨b, 0, none⟩)] w (EnPost w b B (carE s)) := by
  obtain ⟨v, hB, hR⟩ := h
  obtain ⟨k1, ⟨k2, k3⟩, k4, k5, k6⟩ := hk
  obtain ⟨D, hd, r, l, d⟩ := s
  have k1 : D.length + r ≤ N := k1
  have k2 : -1 ≤ hd := k2
  have k3 : hd ≤ 255 + N := k3
  have hB : EcBox w b v hd r l d := hB
  have hR : EcRow w b B v D := hR
  have e1 : IntKind.i64.wrap (hd + 1) = hd + 1 := by rw [IntKind.wrap_i64]; omega
  have HB1 := Lib.hid (hB.set1 (hd + 1))
  have HR1 := Lib.hid (hR.set 1 (.int .i64 (hd + 1)))
  have HK1 := Lib.hid (WKp.of_kp (B := B) ((Kp.refl b w).set 1 (.int .i64 (hd + 1))))
  obtain ⟨⟨c0, c1, c2, c3, c4⟩, f0, f1, f2, f3, f4⟩ := hB
  clear hR k4 k5 k6
  by_cases hr : r = 0
  · subst hr
    have HC : Hid (carE ⟨D, hd, 0, l, d⟩ = ⟨D, hd + 1, 0, l, d⟩) := rfl
    go_enter Tryd.func45, Tryd.ntmps45
    go_wp2
    go_end0
    exact ⟨rfl, by rw [HC.out]; exact ⟨v, HB1.out, HR1.out⟩, HK1.out⟩
  · obtain ⟨X, hX⟩ : ∃ X : Nat, ((hd + 1) % 256).toNat = X := ⟨_, rfl⟩
    obtain ⟨q, hq⟩ : ∃ q, r - 1 = q := ⟨_, rfl⟩
    have HC : Hid (carE ⟨D, hd, r, l, d⟩ = ⟨D ++ [X] ++ List.replicate q 0, 0, 0, l, d⟩) := by
      show (if r = 0 then _ else _) = _
      rw [if_neg hr]
      show (⟨D ++ (((hd + 1) % 256).toNat :: List.replicate (r - 1) 0), 0, 0, l, d⟩ : Ec) = _
      rw [hX, hq, List.append_assoc]
      rfl
    have e2 : IntKind.u8.wrap (hd + 1) = (X : Int) := by rw [IntKind.wrap_u8]; omega
    have e3 : IntKind.i64.wrap ((r : Int) - 1) = (q : Int) := by rw [IntKind.wrap_i64]; omega
    have t1 : ((r : Int) == 0) = false := by rw [beq_eq_false_iff_ne]; omega
    obtain ⟨a, cc, rfl⟩ := HR1.out.form
    have hDn : D.length + q ≤ 1000000 := by omega
    have HX := Lib.hid hX
    clear hX hq hr k1
    go_enter Tryd.func45, Tryd.ntmps45
    go_wp2_with fail
    clear c0 c1 c2 c3 c4 f0 f1 f2 f3 f4 e1
    revert HB1 HR1 HK1
    generalize World.setCell w _ _ = w1
    intro _ _ _
    rename Hid (EcBox _ _ _ _ _ _ _) => HB1
    rename Hid (EcRow _ _ _ _ _) => HR1
    rename Hid (WKp _ _ _ _) => HK1
    obtain ⟨⟨c0, c1, c2, c3, c4⟩, f0, f1, f2, f3, f4⟩ := HB1.out
    have A1 : Ext w1 (w1.alloc (.cells #[.int .u8 (X : Int)] 5)) := (Ext.refl w1).alloc _
    have y0 := A1.cell c0
    have y1 := A1.cell c1
    have hBs := HR1.out.2.2
    go_wp2_with fail
    go_region_law (refine step_push_u8 (by rfl) _ _ 42 (by rfl) Tryd.underlying42 _ D.length _ (X : Int) (by rfl) HR1.out.1 (by rfl) hBs (by omega) ?_; intro g8 cp8 w8 h1 h2; obtain ⟨HBa, HBb, HRb, HKb⟩ := en_push HB1.out HR1.out rfl h1 h2; have HBA := Lib.hid HBa; have HBB := Lib.hid HBb; have HRB := Lib.hid HRb; have HKB := Lib.hid HKb; obtain ⟨⟨a0, a1, a2, a3, a4⟩, z0, z1, z2, z3, z4⟩ := HBA.out; clear h1 h2 HBa HBb HRb HKb)
    all_goals go_wp2_with fail
    all_goals have HK2 := Lib.hid (HK1.out.trans HKB.out)
    all_goals clear HB1 HR1 HK1 HBA HKB a0 a1 a2 a3 a4 z0 z1 z2 z3 z4 c0 c1 c2 c3 c4 f0 f1 f2 f3 f4 y0 y1 A1
    all_goals revert HBB HRB HK2
    all_goals generalize World.setCell w8 _ _ = w2
    all_goals intro _ _ _
    all_goals rename Hid (EcBox _ _ _ _ _ _ _) => HBB
    all_goals rename Hid (EcRow _ _ _ _ _) => HRB
    all_goals rename Hid (WKp _ _ _ _) => HK2
    all_goals (go_loopw [33] (fun iv wr => ∃ (k : Nat) (u : Value), k ≤ q ∧ iv = .int .i64 (k : Int) ∧ Hid (EcBox wr b u (hd + 1) r l d) ∧ Hid (EcRow wr b B u (D ++ [X] ++ List.replicate k 0)) ∧ Hid (WKp b B w wr)) (fun iv _ => q - (intOf iv).toNat))
    all_goals first
      | exact ⟨0, _, Nat.zero_le _, rfl, HBB.out, by show EcRow _ _ _ _ _; rw [List.replicate_zero, List.append_nil]; exact HRB.out, HK2.out⟩
      | skip
    all_goals (
      obtain ⟨k, u, hk, rfl, HB3, HR3, HK3⟩ := hrel
      by_cases hlt : k < q
      · obtain ⟨E, hE⟩ : ∃ E, D ++ [X] ++ List.replicate k 0 = E := ⟨_, rfl⟩
        have hEl : E.length = D.length + 1 + k := by rw [← hE]; simp; omega
        have HE : Hid (D ++ [X] ++ List.replicate (k + 1) 0 = E ++ [0]) := by show _ = _; rw [← hE, List.replicate_succ', List.append_assoc (D ++ [X])]
        rw [hE] at HR3
        obtain ⟨ua, uc, rfl⟩ := HR3.out.form
        obtain ⟨⟨c0, c1, c2, c3, c4⟩, f0, f1, f2, f3, f4⟩ := HB3.out
        have hBs3 := HR3.out.2.2
        have hEn : E.length ≤ 2000000 := by omega
        clear hE hEl HBB HRB HK2
        go_wp2_with (at_builtin; refine push_u8 rfl _ _ 42 rfl Tryd.underlying42 _ E.length _ 0 rfl HR3.out.1 rfl hBs3 (by omega) ?_; intro g8 cp8 w8 h1 h2; obtain ⟨HBa, HBb, HRb, HKb⟩ := en_push HB3.out HR3.out rfl h1 h2; have HBA := Lib.hid HBa; have HBB := Lib.hid HBb; have HRB := Lib.hid HRb; have HKB := Lib.hid HKb; obtain ⟨⟨a0, a1, a2, a3, a4⟩, z0, z1, z2, z3, z4⟩ := HBA.out; clear h1 h2 HBa HBb HRb HKb)
        go_roundw
        case rel => exact ⟨k + 1, _, by omega, by go_num, HBB.out, by show EcRow _ _ _ _ _; rw [HE.out]; exact HRB.out, HK3.out.trans HKB.out⟩
        case measure => simp [intOf]; omega
      · obtain rfl : k = q := by omega
        have hlt' : ¬ (k : Int) < (k : Int) := by omega
        obtain ⟨⟨c0, c1, c2, c3, c4⟩, f0, f1, f2, f3, f4⟩ := HB3.out
        have HBf := Lib.hid ((HB3.out.set1 0).set2 0)
        have HRf := Lib.hid ((HR3.out.set 1 (.int .i64 0)).set 2 (.int .i64 ((0 : Nat) : Int)))
        have HKf := Lib.hid (HK3.out.trans (WKp.of_kp (((Kp.refl b wr).set 1 (.int .i64 0)).set 2 (.int .i64 ((0 : Nat) : Int)))))
        go_wp2
        go_end0
        exact ⟨rfl, by rw [HC.out]; exact ⟨u, HBf.out, HRf.out⟩, HKf.out⟩)
end Go.Proofs.YtdpebaheojaihaaDoor
