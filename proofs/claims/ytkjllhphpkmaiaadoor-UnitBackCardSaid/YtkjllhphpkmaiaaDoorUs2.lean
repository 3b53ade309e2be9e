/- kinref4.Split: its contract over this seat's translation. -/
import Derived.Test.YtkjllhphpkmaiaaDoorUs1
import Derived.Test.YtkjllhphpkmaiaaDoorUrx
import Derived.BigRegion
namespace Go.Proofs.YtkjllhphpkmaiaaDoor
set_option linter.unusedVariables false
set_option linter.unusedSimpArgs false
open Go.RowKit Go.Extern.Stop Go.Stop Go.Extern

def RSpPost (w : World) (R : Fall × List Un) (e : Ending) (w' : World) : Prop := ∃ v c x S, e = .returned (.tuple #[v, .agg #[.int .i64 c, x]]) ∧ w'.ownsRow (w.heap.size + 1) 44 4 v R.2.length (ucs R.2 S R.2.length) ∧ UnOwn w' (w.heap.size + 1) R.2 S R.2.length v ∧ RErrIs w' R.1 c x ∧ Ext w w'
theorem UnOwn.set {w : World} {base k : Nat} {L : List Un} {S : Nat → Value} {ov : Value} (h : UnOwn w base L S k ov) {p : Addr} (hp : p.block < base) (u : Value) : UnOwn (w.setCell p u) base L S k ov := fun q hq => by
  obtain ⟨h1, h2⟩ := h q hq
  exact ⟨own_cell_lt h1 u hp, h2⟩
/-- a result of type kinref.Err that nothing was stored into -/
def RBx (w : World) (R : Nat) : Prop := w.heap[R]? = some (.cells #[.int .i64 0, .slice none 0 0] 32 (0, 0))
theorem RBx.lt {w : World} {R : Nat} (h : RBx w R) : R < w.heap.size := (Array.getElem?_eq_some_iff.1 h).1
theorem RBx.new (w : World) : RBx (w.alloc (.cells #[.int .i64 0, .slice none 0 0] 32)) w.heap.size := heap_alloc_new w _
theorem RBx.ext {w w' : World} {R : Nat} (h : RBx w R) (k : Ext w w') : RBx w' R := (k.block h.lt).trans h
theorem RBx.cells {w : World} {R : Nat} (h : RBx w R) : (w.cell? ⟨R, 0, none⟩ = some (.int .i64 0) ∧ w.cell? ⟨R, 1, none⟩ = some (.slice none 0 0)) ∧ w.frozen? ⟨R, 0, none⟩ = false ∧ w.frozen? ⟨R, 1, none⟩ = false := by
  unfold RBx at h
  refine ⟨⟨?_, ?_⟩, ?_, ?_⟩ <;> simp [World.cell?, World.frozen?, h]
theorem RErrIs.rbx {w : World} {f : Fall} {c : Int} {u : Value} {R : Nat} (h : RErrIs w f c u) (hb : RBx w R) (x v : Value) : RErrIs ((w.setCell ⟨R, 0, none⟩ x).setCell ⟨R, 1, none⟩ v) f c u := by
  cases f with
  | none => exact h
  | some a =>
    obtain ⟨p, k⟩ := a
    obtain ⟨h1, h2, a, cap, e, h3, h4, h5, h6⟩ := h
    refine ⟨h1, h2, a, cap, e, h3, h4, h5, fun g off ha j u hu => ?_⟩
    have hg : g ≠ R := by
      intro hg
      subst hg
      cases p with
      | nil => simp [stepCells] at hu
      | cons s p =>
        have := h6 g off ha 0 (.string s.1) rfl
        rw [Nat.add_zero] at this
        unfold RBx at hb
        simp [World.cell?, hb] at this
        rcases off with _ | _ | off
        · simp at this
        · simp at this
        · simp at this
    rw [World.cell?_setCell_other _ _ _ _ (by intro e; exact hg (congrArg Addr.block e).symm), World.cell?_setCell_other _ _ _ _ (by intro e; exact hg (congrArg Addr.block e).symm)]
    exact h6 g off ha j u hu
theorem rcells2 {w : World} {R : Nat} {x0 x1 : Value} (h0 : w.cell? ⟨R, 0, none⟩ = some x0) (h1 : w.cell? ⟨R, 1, none⟩ = some x1) (a b : Value) :
    ((w.setCell ⟨R, 0, none⟩ a).setCell ⟨R, 1, none⟩ b).cell? ⟨R, 0, none⟩ = some a ∧ ((w.setCell ⟨R, 0, none⟩ a).setCell ⟨R, 1, none⟩ b).cell? ⟨R, 1, none⟩ = some b :=
  ⟨by rw [cell_off_ne _ (by decide)]; exact World.cell?_setCell_same _ _ _ h0, World.cell?_setCell_same _ _ _ ((cell_off_ne _ (by decide)).trans h1)⟩
theorem rs_end {w w7 : World} {L : List Un} {S : Nat → Value} {ov x : Value} {F : Fall} {c : Int} (ho : w7.ownsRow (w.heap.size + 1) 44 4 ov L.length (ucs L S L.length)) (hs : UnOwn w7 (w.heap.size + 1) L S L.length ov) (hx : RErrIs w7 F c x) (hr : RBx w7 w.heap.size) (he : Ext w w7) :
    ((w7.setCell ⟨w.heap.size, 0, none⟩ (.int .i64 c)).setCell ⟨w.heap.size, 1, none⟩ x).ownsRow (w.heap.size + 1) 44 4 ov L.length (ucs L S L.length) ∧ UnOwn ((w7.setCell ⟨w.heap.size, 0, none⟩ (.int .i64 c)).setCell ⟨w.heap.size, 1, none⟩ x) (w.heap.size + 1) L S L.length ov ∧ RErrIs ((w7.setCell ⟨w.heap.size, 0, none⟩ (.int .i64 c)).setCell ⟨w.heap.size, 1, none⟩ x) F c x ∧ Ext w ((w7.setCell ⟨w.heap.size, 0, none⟩ (.int .i64 c)).setCell ⟨w.heap.size, 1, none⟩ x) := by
  have h0 : (⟨w.heap.size, 0, none⟩ : Addr).block < w.heap.size + 1 := Nat.lt_succ_self _
  have h1 : (⟨w.heap.size, 1, none⟩ : Addr).block < w.heap.size + 1 := Nat.lt_succ_self _
  exact ⟨own_cell_lt (own_cell_lt ho _ h0) _ h1, (hs.set h0 _).set h1 _, hx.rbx hr _ _, (he.setCell (p := ⟨w.heap.size, 0, none⟩) (Nat.le_refl _) _).setCell (p := ⟨w.heap.size, 1, none⟩) (Nat.le_refl _) _⟩
set_option maxHeartbeats 4000000 in
set_option maxRecDepth 20000 in
theorem rsplit_any (bs : List Nat) (v : Value) (w : World) (h : Bys w v bs) (hl : bs.length ≤ 100000) : Calls Tryd.prog 25 #[v] w (RSpPost w (spU bs 0)) := by
  obtain ⟨a, cap, rfl⟩ := h.form
  obtain ⟨n, hn⟩ : ∃ n, bs.length = n := ⟨_, rfl⟩
  rw [hn] at h hl ⊢
  obtain ⟨⟨F, L⟩, hR⟩ : ∃ R, spU bs 0 = R := ⟨_, rfl⟩
  have hLc : L.length ≤ n := by
    have := sp_count bs (n + 1) 0 (by omega)
    rw [hR, hn] at this
    exact this
  rw [hR]
  have A1 : Ext w (w.alloc (.cells #[.int .i64 0, .slice none 0 0] 32)) := (Ext.refl w).alloc _
  have HB := Lib.hid (h.ext A1)
  have HE1 := Lib.hid A1
  have HR1 := Lib.hid (RBx.new w)
  have HN := Lib.hid hn
  have HDB := Lib.hid h.2.1
  have H0 : Hid (spU bs 0 = (F, L.drop 0)) := hR
  have hw1 : (w.alloc (.cells #[.int .i64 0, .slice none 0 0] 32)).heap.size = w.heap.size + 1 := by simp
  have HW1 := Lib.hid hw1
  clear h hn hR A1 hw1
  go_enter Tryd.func25, Tryd.ntmps25
  go_wp2_with fail
  revert HE1 HR1 HB HW1
  generalize World.alloc w _ = w1
  intro HB HE1 HR1 HW1
  go_wp2
  go_loopw [4, 5] (fun ov iv wr => ∃ (k p : Nat) (S : Nat → Value), (k ≤ L.length ∧ p ≤ n) ∧ iv = .int .i64 (p : Int) ∧ Hid (spU bs p = (F, L.drop k)) ∧ Hid (wr.ownsRow w1.heap.size 44 4 ov k (ucs L S k)) ∧ Hid (UnOwn wr w1.heap.size L S k ov) ∧ Hid (Ext w1 wr)) (fun _ iv _ => n - (intOf iv).toNat)
  case atStart => exact ⟨0, 0, fun _ => .slice none 0 0, ⟨Nat.zero_le _, Nat.zero_le _⟩, rfl, H0, World.ownsRow_nil _ _ _ _, fun q hq => absurd hq (Nat.not_lt_zero _), Ext.refl w1⟩
  case round =>
    obtain ⟨k, p, S, ⟨hk, hp⟩, rfl, HP, HO, HS, HE⟩ := hrel
    by_cases hlt : p < n
    · have UP := rnext_own bs (p : Int) (.slice a n cap) wr (HB.out.ext HE.out)
      rcases sp_step bs p (by rw [HN.out]; exact hlt) with ⟨K, D, E, e1, ⟨e2, e3, e4⟩, e5, e6⟩ | ⟨C, e1, e2, e3⟩
      · rw [HP.out] at e6
        obtain ⟨f1, f2⟩ := Prod.mk.inj e6
        obtain ⟨g1, g2, g3⟩ := drop_cons f2
        have HP2 : Hid (spU bs (p + E) = (F, L.drop (k + 1))) := by show _ = _; rw [f1, g2]
        have HU : Hid (unD L k = (K, D, (p : Int), (E : Int) + (p : Int))) := by show _ = _; unfold unD; rw [List.getD, g1]; rfl
        have HD : Hid (∀ x ∈ D, x < 256) := fun x hx => HDB.out x (e5 x hx)
        rw [e1] at UP
        rw [HN.out] at e3
        have UQ := Lib.hid UP
        clear e1 e5 e6 f1 f2 g1 g2 H0 HP UP
        go_wp2_with fail
        refine (UQ.out).mono ?_; rintro e w5 ⟨u, c, x, rfl, ⟨ho, -, -⟩, hx, hx5⟩
        obtain ⟨rfl, rfl⟩ : c = 0 ∧ x = .slice none 0 0 := hx
        obtain ⟨ua, uc, rfl⟩ := uform ho
        have E6 : Ext w5 ((w5.alloc (.cells #[.int .i64 (K : Int), .slice ua D.length uc, .int .i64 (p : Int), .int .i64 ((E : Int) + (p : Int))] 44)).alloc (.cells #[.int .i64 0, .slice none 0 0] 32)) := ((Ext.refl w5).alloc _).alloc _
        have HE6 := Lib.hid ((HE.out.trans hx5).trans E6)
        have HO6 := Lib.hid (ownsRow_ext (ownsRow_ext HO.out hx5) E6)
        have HS6 := Lib.hid ((HS.out.ext hx5).ext E6)
        have HU6 := Lib.hid (ownsRow_ext (owns_base ho HE.out.size) E6)
        have hap : Apart u4 (.slice ua D.length uc) := fun b h1 h2 => absurd (HO.out.lt b h1).2 (by have := (ho.lt b h2).1; omega)
        have HAP := Lib.hid hap
        have hne : Hid (some w5.heap.size ≠ u4.ownBlock) := fun e => by have := (HO.out.lt _ e.symm).2; have := hx5.size; omega
        have HUB := Lib.hid ((UBox.new w5 (K : Int) (.slice ua D.length uc) (p : Int) ((E : Int) + (p : Int)) 44).ext ((Ext.refl _).alloc (.cells #[.int .i64 0, .slice none 0 0] 32)))
        have HQ0 : Hid (((w5.alloc (.cells #[.int .i64 (K : Int), .slice ua D.length uc, .int .i64 (p : Int), .int .i64 ((E : Int) + (p : Int))] 44)).alloc (.cells #[.int .i64 0, .slice none 0 0] 32)).cell? ⟨w5.heap.size + 1, 0, none⟩ = some (.int .i64 0)) := by show _ = _; simp
        have HQ1 : Hid (((w5.alloc (.cells #[.int .i64 (K : Int), .slice ua D.length uc, .int .i64 (p : Int), .int .i64 ((E : Int) + (p : Int))] 44)).alloc (.cells #[.int .i64 0, .slice none 0 0] 32)).cell? ⟨w5.heap.size + 1, 1, none⟩ = some (.slice none 0 0)) := by show _ = _; simp
        clear HO HS HE ho hx5 hap E6 UQ
        go_wp2_with fail
        revert HE6 HO6 HS6 HU6 HUB HQ0 HQ1
        generalize World.alloc (World.alloc w5 _) _ = w6
        intro HE6 HO6 HS6 HU6 HUB HQ0 HQ1
        obtain ⟨⟨y0, y1, y2, y3⟩, -⟩ := HUB.out
        have q0 := HQ0.out
        have q1 := HQ1.out
        go_wp2_with fail
        refine (ok_any 0 _ _).mono ?_; rintro e w7 ⟨rfl, hx7⟩
        have HE7 := Lib.hid (HE6.out.trans hx7)
        have HO7 := Lib.hid (ownsRow_ext HO6.out hx7)
        have HS7 := Lib.hid (HS6.out.ext hx7)
        have HU7 := Lib.hid (ownsRow_ext HU6.out hx7)
        have hB7 : w1.heap.size ≤ (w7.heap.size) := HE7.out.size
        have z0 := hx7.cell y0
        have z1 := hx7.cell y1
        have z2 := hx7.cell y2
        have z3 := hx7.cell y3
        have hlt7 : w5.heap.size < w7.heap.size := Ext.lt z0
        have HC7 := Lib.hid z3
        clear HE6 HO6 HS6 HU6 HUB HQ0 HQ1 y0 y1 y2 y3 q0 q1 hx7
        rw [show ((0 : Int) == 0) = true from rfl]
        go_wp2_with (at_builtin; refine push_un rfl _ _ 52 rfl Tryd.underlying52 _ k _ (K : Int) (p : Int) ((E : Int) + (p : Int)) (.slice ua D.length uc) rfl rfl HO7.out (by show Value.slice (some ⟨_, 0, none⟩) 1 1 = _; simp) hB7 (by omega) ?_; intro v8 w8 h1 h2 h3; have HU8 := Lib.hid (push_bys HU7.out HAP.out h2 h3); have HS8 : Hid (UnOwn w8 w1.heap.size L S k v8) := fun q hq => ⟨(push_bys (HS7.out q hq).1 (HS7.out q hq).2.2.2 h2 h3).1, (HS7.out q hq).2.1, (HS7.out q hq).2.2.1, (push_bys (HS7.out q hq).1 (HS7.out q hq).2.2.2 h2 h3).2⟩; have HE8 : Hid (Ext w1 w8) := HE7.out.of_below (Below.grown (Below.refl _ _) h2 hB7 (fun k hk => (HO7.out.lt k hk).1)) (Nat.le_refl _); have HO8 := Lib.hid h1; have c8 : w8.cell? ⟨w5.heap.size, 3, none⟩ = some (.int .i64 ((E : Int) + (p : Int))) := (World.cell?_of_block (h2.block w5.heap.size hlt7 hne.out)).trans HC7.out; clear h1 h2 h3)
        go_roundw
        case rel =>
          refine ⟨k + 1, p + E, fun q => if q = k then .slice ua D.length uc else S q, ⟨by omega, e3⟩, ?_, HP2, ?_, ?_, HE8⟩
          · rw [Int.add_comm, Int.natCast_add]
          · show World.ownsRow _ _ _ _ _ _ _
            rw [ucs_succ, ucs_congr (M := L) (T := S) (fun q hq => if_neg (by omega)) (fun _ _ => rfl), if_pos rfl, HU.out]
            exact HO8.out
          · intro q hq
            by_cases hqk : q = k
            · subst hqk
              simp only [if_true]
              rw [HU.out]
              exact ⟨HU8.out.1, HD.out, by show D.length ≤ 100000; omega, HU8.out.2⟩
            · simp only [if_neg hqk]
              exact HS8.out q (by omega)
        case measure => simp [intOf]; omega
      · rw [HP.out] at e3
        obtain ⟨f1, f2⟩ := Prod.mk.inj e3
        obtain rfl := drop_nil f2 hk
        subst f1
        rw [e2] at UP
        have UQ := Lib.hid UP
        clear e2 e3 f2 H0 HP UP
        go_wp2_with fail
        refine (UQ.out).mono ?_; rintro e w5 ⟨u, c, x, rfl, ⟨ho, -, -⟩, hx, hx5⟩
        have hx : RErrIs w5 (some ([(unS, (p : Int))], C)) c x := hx
        obtain ⟨xa, xn, xc, rfl⟩ : ∃ a n cap, x = Value.slice a n cap := by obtain ⟨_, _, a, cap, e, -⟩ := hx; exact ⟨_, _, _, e⟩
        obtain ⟨ua, uc, rfl⟩ := uform ho
        obtain rfl : c = C := hx.1
        have E6 : Ext w5 ((w5.alloc (.cells #[.int .i64 0, .slice ua 0 uc, .int .i64 0, .int .i64 0] 44)).alloc (.cells #[.int .i64 c, .slice xa xn xc] 32)) := ((Ext.refl w5).alloc _).alloc _
        have HE6 := Lib.hid ((HE.out.trans hx5).trans E6)
        have HO6 := Lib.hid (ownsRow_ext (ownsRow_ext HO.out hx5) E6)
        have HS6 := Lib.hid ((HS.out.ext hx5).ext E6)
        have HX6 := Lib.hid (RErrIs.ext hx E6)
        have HQ0 : Hid (((w5.alloc (.cells #[.int .i64 0, .slice ua 0 uc, .int .i64 0, .int .i64 0] 44)).alloc (.cells #[.int .i64 c, .slice xa xn xc] 32)).cell? ⟨w5.heap.size + 1, 0, none⟩ = some (.int .i64 c)) := by show _ = _; simp
        have HQ1 : Hid (((w5.alloc (.cells #[.int .i64 0, .slice ua 0 uc, .int .i64 0, .int .i64 0] 44)).alloc (.cells #[.int .i64 c, .slice xa xn xc] 32)).cell? ⟨w5.heap.size + 1, 1, none⟩ = some (.slice xa xn xc)) := by show _ = _; simp
        clear HO HS HE ho hx hx5 E6 UQ
        go_wp2_with fail
        revert HE6 HO6 HS6 HX6 HQ0 HQ1
        generalize World.alloc (World.alloc w5 _) _ = w6
        intro HE6 HO6 HS6 HX6 HQ0 HQ1
        have q0 := HQ0.out
        have q1 := HQ1.out
        go_wp2_with fail
        refine (ok_any c _ _).mono ?_; rintro e w7 ⟨rfl, hx7⟩
        have HE7 := Lib.hid (HE6.out.trans hx7)
        have HO7 := Lib.hid (ownsRow_ext HO6.out hx7)
        have HS7 := Lib.hid (HS6.out.ext hx7)
        have HX7 := Lib.hid (RErrIs.ext HX6.out hx7)
        have HR7 := Lib.hid (HR1.out.ext HE7.out)
        have z0 := hx7.cell q0
        have z1 := hx7.cell q1
        clear HE6 HO6 HS6 HX6 HQ0 HQ1 q0 q1 hx7
        obtain ⟨⟨r0, r1⟩, r2, r3⟩ := HR7.out.cells
        rw [show (c == 0) = false by rw [beq_eq_false_iff_ne]; exact e1]
        go_wp2
        go_region
        go_wp2
        obtain ⟨y0, y1⟩ := rcells2 r0 r1 (.int .i64 c) (.slice xa xn xc)
        have D1 := (Ext.refl ((w7.setCell ⟨w.heap.size, 0, none⟩ (.int .i64 c)).setCell ⟨w.heap.size, 1, none⟩ (.slice xa xn xc))).drew
        obtain ⟨t1, t2, t3, t4⟩ := rs_end (w := w) (by rw [← HW1.out]; exact HO7.out) (by rw [← HW1.out]; exact HS7.out) HX7.out HR7.out (HE1.out.trans HE7.out)
        exact bodyPost_ret (v := .tuple #[u4, .agg #[.int .i64 c, .slice xa xn xc]]) (by simp [results, Tryd.results25, go_sem, y0, y1]) rfl ⟨u4, c, .slice xa xn xc, S, rfl, ownsRow_ext t1 D1, t2.ext D1, RErrIs.ext t3 D1, t4.trans D1⟩
    · have hpn : p = n := by omega
      subst hpn
      have e3 := sp_done (bs := bs) (a := p) (by rw [HN.out]; exact Nat.le_refl _)
      rw [HP.out] at e3
      obtain ⟨f1, f2⟩ := Prod.mk.inj e3
      obtain rfl := drop_nil f2 hk
      subst f1
      clear e3 f2 hlt
      have hlt : ¬ (p : Int) < (p : Int) := by omega
      have HR7 := Lib.hid (HR1.out.ext HE.out)
      obtain ⟨⟨r0, r1⟩, r2, r3⟩ := HR7.out.cells
      go_wp2
      obtain ⟨y0, y1⟩ := rcells2 r0 r1 (.int .i64 0) (.slice none 0 0)
      obtain ⟨t1, t2, t3, t4⟩ := rs_end (w := w) (by rw [← HW1.out]; exact HO.out) (by rw [← HW1.out]; exact HS.out) (RErrIs.zero (w := wr)) HR7.out (HE1.out.trans HE.out)
      exact bodyPost_ret (v := .tuple #[u4, .agg #[.int .i64 0, .slice none 0 0]]) (by simp [results, Tryd.results25, go_sem, y0, y1]) rfl ⟨u4, 0, .slice none 0 0, S, rfl, t1, t2, t3, t4⟩
end Go.Proofs.YtkjllhphpkmaiaaDoor
