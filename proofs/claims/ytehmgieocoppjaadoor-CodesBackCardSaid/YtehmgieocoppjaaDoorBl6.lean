/- kinlaw2.BitsWrites: the walk. -/
import Derived.Test.YtehmgieocoppjaaDoorZt
import Derived.Deep.RegionLaw
import Derived.Deep.RegionHeld3
import Derived.Deep.CutRange
import Derived.Deep.AppendLies
namespace Go.Proofs.YtehmgieocoppjaaDoor
set_option linter.unusedVariables false
set_option linter.unusedSimpArgs false
open Go.RowKit Go.Extern.Stop Go.Stop Go.Extern

theorem WrAt.xkp {w w' : World} {b x B : Nat} {l : List Bool} (h : WrAt w b B l) (k : XKp x B w w') (hb : b ≠ x) (hx : x < B) : WrAt w' b B l := by
  obtain ⟨u, h1, ho, h3, h4⟩ := h
  have hbw := Ext.lt (p := ⟨b, 0, none⟩) h1.1.1
  refine ⟨u, h1.same (k.2.2 b hbw hb (.inl h3.1)), ?_, ⟨h3.1, Nat.le_trans h3.2 k.2.1⟩, h4⟩
  obtain ⟨hl, ho⟩ := ho
  refine ⟨hl, ?_⟩
  rcases ho with ho | ⟨g, cap, cur, rfl, hg, hgg, rest⟩
  · exact Or.inl ho
  · refine Or.inr ⟨g, cap, cur, rfl, hg, ?_, rest⟩
    rw [k.2.2 g (Array.getElem?_eq_some_iff.1 hgg).1 (by omega) (.inr ?_)]
    · exact hgg
    · rintro ⟨cs, fr, e⟩
      rw [hgg] at e
      simp only [Option.some.injEq, Obj.cells.injEq] at e
      exact absurd e.2.1 (by decide)
theorem XwAt.wkp {w w' : World} {b x B : Nat} {l : List Bool} (h : XwAt w x B l) (k : WKp b B w w') (hb : x ≠ b) (hbB : b < B) : XwAt w' x B l := by
  obtain ⟨v, ⟨c0, f0⟩, ho, h3, h4⟩ := h
  have hxw := Ext.lt (p := ⟨x, 0, none⟩) c0
  have eb := k.2.2 x hxw hb (.inl h3.1)
  refine ⟨v, ⟨(World.cell?_of_block (a := ⟨x, 0, none⟩) eb).trans c0, (World.frozen?_of_block (a := ⟨x, 0, none⟩) eb).trans f0⟩, ?_, ⟨h3.1, Nat.le_trans h3.2 k.2.1⟩, h4⟩
  obtain ⟨hl, ho⟩ := ho
  refine ⟨hl, ?_⟩
  rcases ho with ho | ⟨g, cap, cur, rfl, hg, hgg, rest⟩
  · exact Or.inl ho
  · refine Or.inr ⟨g, cap, cur, rfl, hg, ?_, rest⟩
    rw [k.2.2 g (Array.getElem?_eq_some_iff.1 hgg).1 (by omega) (.inr ?_)]
    · exact hgg
    · rintro ⟨cs, fr, e⟩
      rw [hgg] at e
      simp only [Option.some.injEq, Obj.cells.injEq] at e
      exact absurd e.2.1 (by decide)
theorem ErrIs.put {w w' : World} {v n : Int} {x : Value} (h : ErrIs w (wpF v n) x) : ErrIs w' (wpF v n) x := by
  unfold wpF at *
  split
  · rename_i h1; rw [if_pos h1] at h; exact h
  · rename_i h1; rw [if_neg h1] at h; exact h
theorem RErrIs.put {w w' : World} {v n c : Int} {u : Value} (h : RErrIs w (wpF v n) c u) : RErrIs w' (wpF v n) c u := by
  unfold wpF at *
  split
  · rename_i h1; rw [if_pos h1] at h; exact h
  · rename_i h1
    rw [if_neg h1] at h
    obtain ⟨a, b, x, y, e, h1, h2, h3, h4⟩ := h
    exact ⟨a, b, x, y, e, h1, h2, h3, fun g off ha j u hu => by simp [stepCells] at hu⟩
theorem wpL_len {l : List Bool} {v n : Int} : (wpL l v n).length ≤ l.length + 32 := by
  unfold wpL
  split
  · rename_i h
    rw [List.length_append, bsOf_length]
    have := h.1
    omega
  · omega
theorem XwAt.form {w : World} {x B : Nat} {l : List Bool} (h : XwAt w x B l) : ∃ a cap, w.cell? ⟨x, 0, none⟩ = some (.slice a l.length cap) ∧ w.frozen? ⟨x, 0, none⟩ = false ∧ w.ownsRow B 4 1 (.slice a l.length cap) l.length (boC l) := by
  obtain ⟨v, ⟨c0, f0⟩, ho, h3, h4⟩ := h
  obtain ⟨a, cap, rfl⟩ := bo_slice ho
  exact ⟨a, cap, c0, f0, ho⟩
theorem wpad_le (l : List Bool) : (wpad l).length ≤ l.length + 32 := by rw [wpad_length]; omega
theorem step_push_bo {ops : Array Oper} {o : Oper} {a : Act} {K : Act → World → Prop} {Q : Exit → Act → World → Prop} {E : Prop} {W : World} {base : Nat} (hgd : o.guard = none) (s y : Operand) (t : TypeId)
    (ho : o.op = .call { callee := .builtin .append, args := #[s, y], argTypes := #[t, t] }) (ht : Tryd.prog.underlying t = some (.slice 4))
    (v : Value) (n : Nat) (xs : List Value) (x : Bool) (hs : a.eval s = v) (hown : W.ownsRow base 4 1 v n xs) (hx : a.eval y = .slice (some ⟨W.heap.size, 0, none⟩) 1 1) (hb : base ≤ W.heap.size) (hn : n ≤ 1000000)
    (h : ∀ g cap w', w'.ownsRow base 4 1 (.slice (some ⟨g, 0, none⟩) (n + 1) cap) (n + 1) (xs ++ [.bool x]) → W.grownBy w' v.ownBlock → K (a.put o.dst (.slice (some ⟨g, 0, none⟩) (n + 1) cap)) w') :
    if Region.wanted o (yielded ops a.tmps) = true then Oper.wp Tryd.prog o a ((W.alloc (.cells #[.bool x] 4)).drew) K Q else E := by
  obtain ⟨i0, hi, hz0, hz1, hz2⟩ := info_parts infoBool
  have hown' : ((W.alloc (.cells #[.bool x] 4)).drew).ownsRow base 4 1 v n xs := (hown.alloc _).drew
  refine step_append_lies _ hgd s y t ho base 4 i0 (.bool false) 1 1 ht hi hz0 hz1 hz2 rfl (by decide) v n xs hs hown' ⟨W.heap.size, 0, none⟩ 1 1 [.bool x] hx rfl (World.news_of_block (cs := #[.bool x]) (t := 4) (fr := (0, 0)) (heap_alloc_new W _)) ?_ (by decide) (by unfold maxLen; omega) (by omega) (by simp; omega) (W.heap.size + 1) (by simp) ?_
  · intro u hu
    simp only [List.mem_cons, List.not_mem_nil, or_false] at hu
    subst hu
    rfl
  intro g cap w' h1 h2 h3 _
  refine h g cap w' h1 ⟨h2.os, h2.tape, h2.output, Nat.le_trans (by simp) h2.size, fun k hk hne => ?_⟩
  exact (h2.block k (by simp; omega) hne).trans (Below.heap_alloc W _ k hk)
set_option maxHeartbeats 8000000 in
set_option maxRecDepth 20000 in
theorem writes_law (L : List Op4) (u : Value) (w : World) (hg : EtIs w) (ho : Ops w u L) :
    Calls Tryd.prog 3 #[u] w fun e w' => e = .returned (.bool true) ∧ Ext w w' := by
  have hm := ho.small
  obtain ⟨b0, cb, rfl⟩ := ho.form
  have HO := Lib.hid ho
  obtain ⟨m, hm'⟩ : ∃ m, m = L.length := ⟨_, rfl⟩
  rw [← hm'] at HO hm ⊢
  have HM := Lib.hid hm'
  unfold maxLen at hm
  clear ho hm'
  go_enter Tryd.func3, Tryd.ntmps3
  go_wp2_with fail
  refine (first2_any _ hg).mono ?_; rintro e w1 ⟨rfl, hx1⟩
  go_wp2_with fail
  refine (newwr_any _).mono ?_; rintro e w2 ⟨b, rfl, hb, hw2, hx2⟩
  have hbB : b < w2.heap.size := Ext.lt (p := ⟨b, 0, none⟩) hw2.1.1
  have HW2 : Hid (∀ T, WrAt (w2.alloc (.cells #[.slice none 0 0] T)) b (w2.heap.size + 1) []) := fun T => WrAt.new (hw2.ext ((Ext.refl w2).alloc _)) (by omega) (by simp)
  have HX2 : Hid (∀ T, XwAt (w2.alloc (.cells #[.slice none 0 0] T)) w2.heap.size (w2.heap.size + 1) []) := fun T => ⟨.slice none 0 0, ⟨by simp, by simp⟩, World.ownsRow_nil _ _ _ _, ⟨by omega, by simp⟩, by simp⟩
  have HE2 : Hid (∀ T, Ext w (w2.alloc (.cells #[.slice none 0 0] T))) := fun T => (hx1.trans hx2).alloc _
  have hwx : w.heap.size ≤ w2.heap.size := (hx1.trans hx2).size
  have hwb : w.heap.size ≤ b := Nat.le_trans hx1.size hb
  clear hw2 hx1 hx2 hb
  obtain ⟨x, hxx⟩ : ∃ x, w2.heap.size = x := ⟨_, rfl⟩
  have HXX := Lib.hid hxx
  obtain ⟨B, hB⟩ : ∃ B, x + 1 = B := ⟨_, rfl⟩
  rw [hxx] at HW2 HX2 hbB hwx
  rw [hB] at HW2 HX2
  have hxB : x < B := by omega
  have hbx : b ≠ x := by omega
  have hxb : x ≠ b := by omega
  have hbB2 : b < B := by omega
  have hwB : w.heap.size ≤ B := by omega
  clear hB
  clear hxx
  go_wp2_with fail
  try rw [HXX.out]
  go_loopw [5] (fun iv wr => ∃ (i : Nat) (l : List Bool), (i ≤ m ∧ i ≤ 2000) ∧ iv = .int .i64 (i : Int) ∧ l.length ≤ 32 * i ∧ Hid (WrAt wr b B l) ∧ Hid (XwAt wr x B l) ∧ Hid (Ext w wr)) (fun iv _ => 2000 - (intOf iv).toNat)
  case atStart => exact ⟨0, [], ⟨Nat.zero_le _, Nat.zero_le _⟩, rfl, Nat.zero_le _, HW2.out _, HX2.out _, HE2.out _⟩
  case round =>
    clear HW2 HX2 HE2
    obtain ⟨i, l, ⟨hi, hi2⟩, rfl, hl, HW, HX, HE⟩ := hrel
    by_cases hlt : i < m
    · by_cases hlt2 : i < 2000
      · obtain ⟨g, off, ha, hq⟩ := HO.out.had (by have := HM.out; omega)
        subst ha
        obtain ⟨o, ho⟩ : ∃ o, L[i]? = some o := ⟨_, List.getElem?_eq_getElem (by rw [← HM.out]; exact hlt)⟩
        have HOP := Lib.hid (hq i o ho)
        have x1 : (0 : Int) ≤ (i : Int) := by omega
        have x2 : (i : Int) < (m : Int) := by omega
        have x3 : (i : Int) < 2000 := by omega
        have hl8 : l.length ≤ 64000 := by omega
        clear hq ho
        obtain ⟨c0, c1, c2, c3⟩ := HOP.out.ext HE.out
        by_cases h0 : o.1 = 0
        · rw [h0] at c0
          have HED := Lib.hid HE.out.drew
          have HWD := Lib.hid (HW.out.ext (Ext.refl wr).drew)
          have HXD := Lib.hid (HX.out.ext (Ext.refl wr).drew)
          obtain ⟨d0, d1, d2, d3⟩ := HOP.out.ext HED.out
          have UW := Lib.hid (fun w' (h : WrAt w' b B l) => wput_any b B o.2.1 o.2.2.1 l w' h (by omega))
          have UX := Lib.hid (fun w' (h : XwAt w' x B l) => xwput_any x B o.2.1 o.2.2.1 l w' h (by omega))
          have hlw : (wpL l o.2.1 o.2.2.1).length ≤ 32 * (i + 1) := by have := wpL_len (l := l) (v := o.2.1) (n := o.2.2.1); omega
          clear h0
          obtain ⟨l2, hl2'⟩ : ∃ l2, wpL l o.2.1 o.2.2.1 = l2 := ⟨_, rfl⟩
          rw [hl2'] at hlw
          have HL2 := Lib.hid hl2'
          clear hl2'
          go_wp2_with fail
          go_cut [61] from 36 to 61 (fun s61 wx => s61 = .bool false ∧ Hid (WrAt wx b B l2) ∧ Hid (XwAt wx x B l2) ∧ Hid (Ext w wx))
          case first =>
            go_region_law (first
              | (go_simp; go_at_call 15; (first
                  | ((with_reducible refine (UW.out _ HWD.out).mono ?_); rintro e w5 ⟨x5, rfl, p5, k5, e5⟩; have HW5 := Lib.hid p5; have HX5 := Lib.hid (HXD.out.wkp k5 hxb hbB2); have HE5 := Lib.hid (WKp.out HED.out k5 hwb hwB); have HR5 := Lib.hid e5; obtain ⟨d0, d1, d2, d3⟩ := HOP.out.ext HE5.out; clear p5 k5 e5)
                  | (refine (UW.out _ HW5.out).mono ?_; rintro e w6 ⟨x5, rfl, p5, k5, e5⟩; have HW6 := Lib.hid p5; have HX6 := Lib.hid (HX5.out.wkp k5 hxb hbB2); have HE6 := Lib.hid (WKp.out HE5.out k5 hwb hwB); have HR5 := Lib.hid e5; clear p5 k5 e5)))
              | (go_simp; go_at_call 16; (first
                  | ((with_reducible refine (UX.out _ HXD.out).mono ?_); rintro e w5 ⟨ce, u5, rfl, p5, k5, e5⟩; have HX5 := Lib.hid p5; have HW5 := Lib.hid (HWD.out.xkp k5 hbx hxB); have HE5 := Lib.hid (XKp.out HED.out k5 hwx hwB); have HS5 := Lib.hid e5; obtain ⟨d0, d1, d2, d3⟩ := HOP.out.ext HE5.out; clear p5 k5 e5)
                  | (refine (UX.out _ HX5.out).mono ?_; rintro e w6 ⟨ce, u5, rfl, p5, k5, e5⟩; have HX6 := Lib.hid p5; have HW6 := Lib.hid (HW5.out.xkp k5 hbx hxB); have HE6 := Lib.hid (XKp.out HE5.out k5 hwx hwB); have HS5 := Lib.hid e5; clear p5 k5 e5)))
              | (go_simp; go_at_call 14; refine (same_fall (wpF o.2.1 o.2.2.1) _ _ _ _ (hg.ext HE6.out) HR5.out.put HS5.out.put).mono ?_; rintro e w7 ⟨rfl, hx7⟩; have HW7 := Lib.hid (HW6.out.ext hx7); have HX7 := Lib.hid (HX6.out.ext hx7); have HE7 := Lib.hid (HE6.out.trans hx7)))
            all_goals go_wp2_with fail
            all_goals go_meet
            all_goals exact ⟨rfl, by rw [← HL2.out]; exact HW7.out, by rw [← HL2.out]; exact HX7.out, HE7.out⟩
          case rest =>
            obtain ⟨wz, hwz⟩ : ∃ wz, wz = wc := ⟨_, rfl⟩
            subst hwz
            obtain ⟨rfl, HWZ, HXZ, HEZ⟩ := hcut
            have hl2 : l2.length ≤ 32 * (i + 1) := hlw
            clear hlw HL2 HED HWD HXD d0 d1 d2 d3 UW UX c0 c1 c2 c3 HW HX HE
            -- in hand: the world wz, the bits l2 (at most 32 * (i + 1)): HWZ HXZ HEZ
            obtain ⟨n, hn⟩ : ∃ n, l2.length = n := ⟨_, rfl⟩
            obtain ⟨xa, xcap, xc, -, -⟩ := HXZ.out.form
            have UL := Lib.hid (fun w' (h : WrAt w' b B l2) => wrlen_any b B l2 w' h)
            rw [hn] at UL xc
            have HN2 := Lib.hid hn
            clear hn
            have KS : Hid (∀ w', Ext wz w' → w'.cell? ⟨x, 0, none⟩ = some (.slice xa n xcap) ∧ Ext wz w') := fun w' h => ⟨h.cell xc, h⟩
            go_wp2_with fail
            go_region_held3 (fun w' => w'.cell? ⟨x, 0, none⟩ = some (.slice xa n xcap) ∧ Ext wz w')
              (first | assumption | (go_split_ands; exact KS.out _ (by repeat (first | exact Ext.refl _ | assumption | refine Ext.drew ?_ | refine Ext.trans ?_ (by assumption)))))
              ((first
                | (go_at_call 20; obtain ⟨_, hE1⟩ : _ ∧ Ext wz _ := (by assumption); refine (UL.out _ (HWZ.out.ext hE1)).mono ?_; rintro e w6 ⟨rfl, rfl⟩)))
            all_goals obtain ⟨_, hE9⟩ : _ ∧ Ext wz _ := by assumption
            all_goals have HW9 := Lib.hid (HWZ.out.ext hE9)
            all_goals have HX9 := Lib.hid (HXZ.out.ext hE9)
            all_goals have HE9 := Lib.hid (HEZ.out.trans hE9)
            all_goals go_wp2
            all_goals go_roundw
            all_goals first
              | exact ⟨i + 1, l2, ⟨by omega, by omega⟩, by go_num, hl2, HW9.out, HX9.out, HE9.out⟩
              | (simp [intOf]; omega)
        · by_cases h1 : o.1 = 1
          · rw [h1] at c0
            go_wp2_with fail
            refine (wflag_any b B o.2.2.2 l _ HW.out (by omega)).mono ?_; rintro e w5 ⟨rfl, p5, k5⟩
            have HW5 := Lib.hid p5
            have HX5 := Lib.hid (HX.out.wkp k5 hxb hbB2)
            have HE5 := Lib.hid (WKp.out HE.out k5 hwb hwB)
            clear p5 k5 HW HX HE c0 c1 c2 c3 h0 h1
            obtain ⟨d0, d1, d2, d3⟩ := HOP.out.ext HE5.out
            obtain ⟨v0, ⟨g0, f0⟩, xo, hbB9, hll⟩ := HX5.out
            obtain ⟨a, cap, rfl⟩ := bo_slice xo
            obtain ⟨n, hn⟩ : ∃ n, l.length = n := ⟨_, rfl⟩
            rw [hn] at g0 xo hll hl hl8
            have HN := Lib.hid hn
            have HO5 := Lib.hid xo
            have HC5 : Hid (w5.cell? ⟨x, 0, none⟩ = some (.slice a n cap) ∧ w5.frozen? ⟨x, 0, none⟩ = false) := ⟨g0, f0⟩
            have hBs := hbB9.2
            have HBB := Lib.hid hbB9
            have hn6 : n ≤ 1000000 := hll
            have hn7 : n < 1000000 := by omega
            obtain ⟨ob, hob⟩ : ∃ ob, o.2.2.2 = ob := ⟨_, rfl⟩
            rw [hob] at HW5 d3
            clear xo hn hbB9 hll hob
            go_wp2_with fail
            have A1 := (Ext.refl w5).alloc (.cells #[.bool ob] 4)
            have e3 := A1.cell d3
            have eg := A1.cell g0
            clear A1
            go_region_law (refine step_push_bo (by rfl) _ _ 27 (by rfl) Tryd.underlying27 _ n _ ob (by rfl) HO5.out (by rfl) hBs hn6 ?_; intro g8 cp8 w8 h1 h2; have HP := Lib.hid (XwAt.push HN.out HC5.out.1 HC5.out.2 HO5.out HBB.out hn7 h1 h2); obtain ⟨-, -, f8, c8⟩ := HP.out; clear h1 h2)
            all_goals
              have HXZ := Lib.hid HP.out.1
              have HWZ := Lib.hid (HW5.out.xkp HP.out.2.1 hbx hxB)
              have HEZ := Lib.hid (XKp.out HE5.out HP.out.2.1 hwx hwB)
              obtain ⟨l2, hl3⟩ : ∃ l2, l ++ [ob] = l2 := ⟨_, rfl⟩
              rw [hl3] at HXZ HWZ
              have hl2 : l2.length ≤ 32 * (i + 1) := by rw [← hl3, List.length_append]; have := HN.out; simp; omega
              clear hl3 HP HW5 HX5 HE5 HO5 HC5 d0 d1 d2 d3 e3 eg f8 c8 g0 f0 HN HBB
              revert HXZ HWZ HEZ
              generalize World.setCell _ _ _ = wz
              intro HEZ HWZ HXZ
              clear hn6 hn7 hBs hl hl8
              -- in hand: the world wz, the bits l2 (at most 32 * (i + 1)): HWZ HXZ HEZ
              obtain ⟨n, hn⟩ : ∃ n, l2.length = n := ⟨_, rfl⟩
              obtain ⟨xa, xcap, xc, -, -⟩ := HXZ.out.form
              have UL := Lib.hid (fun w' (h : WrAt w' b B l2) => wrlen_any b B l2 w' h)
              rw [hn] at UL xc
              have HN2 := Lib.hid hn
              clear hn
              have KS : Hid (∀ w', Ext wz w' → w'.cell? ⟨x, 0, none⟩ = some (.slice xa n xcap) ∧ Ext wz w') := fun w' h => ⟨h.cell xc, h⟩
              go_wp2_with fail
              go_region_held3 (fun w' => w'.cell? ⟨x, 0, none⟩ = some (.slice xa n xcap) ∧ Ext wz w')
                (first | assumption | (go_split_ands; exact KS.out _ (by repeat (first | exact Ext.refl _ | assumption | refine Ext.drew ?_ | refine Ext.trans ?_ (by assumption)))))
                ((first
                  | (go_at_call 20; obtain ⟨_, hE1⟩ : _ ∧ Ext wz _ := (by assumption); refine (UL.out _ (HWZ.out.ext hE1)).mono ?_; rintro e w6 ⟨rfl, rfl⟩)))
              all_goals obtain ⟨_, hE9⟩ : _ ∧ Ext wz _ := by assumption
              all_goals have HW9 := Lib.hid (HWZ.out.ext hE9)
              all_goals have HX9 := Lib.hid (HXZ.out.ext hE9)
              all_goals have HE9 := Lib.hid (HEZ.out.trans hE9)
              all_goals go_wp2
              all_goals go_roundw
              all_goals first
                | exact ⟨i + 1, l2, ⟨by omega, by omega⟩, by go_num, hl2, HW9.out, HX9.out, HE9.out⟩
                | (simp [intOf]; omega)
          · go_wp2_with fail
            refine (wralign_any b B l _ HW.out (by omega)).mono ?_; rintro e w5 ⟨rfl, p5, k5⟩
            have HW5 := Lib.hid p5
            have HX5 := Lib.hid (HX.out.wkp k5 hxb hbB2)
            have HE5 := Lib.hid (WKp.out HE.out k5 hwb hwB)
            clear p5 k5 HW HX HE c0 c1 c2 c3 h0 h1
            go_wp2_with fail
            refine (xwalign_any x B l _ HX5.out (by omega)).mono ?_; rintro e wz ⟨rfl, p6, k6⟩
            have HXZ := Lib.hid p6
            have HWZ := Lib.hid (HW5.out.xkp k6 hbx hxB)
            have HEZ := Lib.hid (XKp.out HE5.out k6 hwx hwB)
            have hl2' := wpad_le l
            obtain ⟨l2, hl3⟩ : ∃ l2, wpad l = l2 := ⟨_, rfl⟩
            rw [hl3] at HXZ HWZ hl2'
            have hl2 : l2.length ≤ 32 * (i + 1) := by omega
            clear p6 k6 HW5 HX5 HE5 hl3 hl2'
            -- in hand: the world wz, the bits l2 (at most 32 * (i + 1)): HWZ HXZ HEZ
            obtain ⟨n, hn⟩ : ∃ n, l2.length = n := ⟨_, rfl⟩
            obtain ⟨xa, xcap, xc, -, -⟩ := HXZ.out.form
            have UL := Lib.hid (fun w' (h : WrAt w' b B l2) => wrlen_any b B l2 w' h)
            rw [hn] at UL xc
            have HN2 := Lib.hid hn
            clear hn
            have KS : Hid (∀ w', Ext wz w' → w'.cell? ⟨x, 0, none⟩ = some (.slice xa n xcap) ∧ Ext wz w') := fun w' h => ⟨h.cell xc, h⟩
            go_wp2_with fail
            go_region_held3 (fun w' => w'.cell? ⟨x, 0, none⟩ = some (.slice xa n xcap) ∧ Ext wz w')
              (first | assumption | (go_split_ands; exact KS.out _ (by repeat (first | exact Ext.refl _ | assumption | refine Ext.drew ?_ | refine Ext.trans ?_ (by assumption)))))
              ((first
                | (go_at_call 20; obtain ⟨_, hE1⟩ : _ ∧ Ext wz _ := (by assumption); refine (UL.out _ (HWZ.out.ext hE1)).mono ?_; rintro e w6 ⟨rfl, rfl⟩)))
            all_goals obtain ⟨_, hE9⟩ : _ ∧ Ext wz _ := by assumption
            all_goals have HW9 := Lib.hid (HWZ.out.ext hE9)
            all_goals have HX9 := Lib.hid (HXZ.out.ext hE9)
            all_goals have HE9 := Lib.hid (HEZ.out.trans hE9)
            all_goals go_wp2
            all_goals go_roundw
            all_goals first
              | exact ⟨i + 1, l2, ⟨by omega, by omega⟩, by go_num, hl2, HW9.out, HX9.out, HE9.out⟩
              | (simp [intOf]; omega)
      · obtain rfl : i = 2000 := by omega
        have hl8 : l.length ≤ 64000 := by omega
        -- in hand: wr, l, HW HX HE: both Bytes, the first one's changed
        go_wp2_with fail
        refine (wbytes_any b B l _ HW.out).mono ?_; rintro e wb ⟨u5, rfl, ho5, hx5⟩
        have hy5 := Bys.of_owns ho5 (pkL_lt l) (by rw [pkL_length]; omega)
        obtain ⟨a5, cap5, rfl⟩ := hy5.form
        have hcs := CsAt.of ho5 (pkL_lt l)
        obtain ⟨n5, hn5⟩ : ∃ n5, (pkL l).length = n5 := ⟨_, rfl⟩
        have hn5b : n5 ≤ 10000 := by rw [← hn5, pkL_length]; omega
        rw [hn5] at hcs ⊢
        have HCS := Lib.hid hcs
        have HX5 := Lib.hid hx5
        clear hy5 ho5 hx5 hn5 hcs
        go_wp2_with fail
        go_loopw [7] (fun iv wv => ∃ j : Nat, j ≤ n5 ∧ iv = .int .i64 (j : Int) ∧ Hid (CsAt wv wr.heap.size wb.heap.size a5 n5) ∧ Hid (Ext wr wv)) (fun iv _ => n5 - (intOf iv).toNat)
        case atStart => exact ⟨0, Nat.zero_le _, rfl, HCS.out, HX5.out⟩
        case round =>
          clear HCS HX5
          obtain ⟨wv, hwv⟩ : ∃ wv, wv = wr := ⟨_, rfl⟩
          subst hwv
          obtain ⟨j, hj, rfl, HC, HV⟩ := hrel
          by_cases hjn : j < n5
          · obtain ⟨g, hga, ⟨hg1, hg2⟩, hcell⟩ := HC.out (by omega)
            subst hga
            obtain ⟨⟨xx, hxx, cx⟩, fx⟩ := hcell j hjn
            obtain ⟨y, hy, ey⟩ := xor_byte (xx : Int)
            have z1 : (0 : Int) ≤ (j : Int) := by omega
            have z2 : (j : Int) < (n5 : Int) := by omega
            clear hcell
            go_wp2
            go_roundw
            case rel => exact ⟨j + 1, by omega, by go_num, HC.out.set hy, HV.out.setCell (p := ⟨g, j, none⟩) hg1 _⟩
            case measure => simp [intOf]; omega
          · obtain rfl : j = n5 := by omega
            have HWv := Lib.hid (HW.out.ext HV.out)
            have HXv := Lib.hid (HX.out.ext HV.out)
            have HEv := Lib.hid (HE.out.trans HV.out)
            clear HC HV HW HX HE
            go_wp2_with fail
            refine (first2_any _ (hg.ext HEv.out)).mono ?_; rintro e wc ⟨rfl, hxc⟩
            go_wp2_with fail
            refine (wbytes_any b B l _ (HWv.out.ext hxc)).mono ?_; rintro e wd ⟨ud, rfl, hod, hxd⟩
            have hyd := Bys.of_owns hod (pkL_lt l) (by rw [pkL_length]; omega)
            go_wp2_with fail
            refine (xwbytes_any x B l _ ((HXv.out.ext hxc).ext hxd)).mono ?_; rintro e we ⟨ge, ne, rfl, hye, hxe⟩
            go_wp2_with fail
            refine (bytes_same (pkL l) _ _ _ (hyd.ext hxe) hye).mono ?_; rintro e wf ⟨rfl, rfl⟩
            go_wp2
            go_ret
            exact ⟨rfl, HEv.out.trans (hxc.trans (hxd.trans hxe))⟩
    · obtain rfl : i = m := by omega
      have hl8 : l.length ≤ 64000 := by omega
      -- in hand: wr, l, HW HX HE: both Bytes, the first one's changed
      go_wp2_with fail
      refine (wbytes_any b B l _ HW.out).mono ?_; rintro e wb ⟨u5, rfl, ho5, hx5⟩
      have hy5 := Bys.of_owns ho5 (pkL_lt l) (by rw [pkL_length]; omega)
      obtain ⟨a5, cap5, rfl⟩ := hy5.form
      have hcs := CsAt.of ho5 (pkL_lt l)
      obtain ⟨n5, hn5⟩ : ∃ n5, (pkL l).length = n5 := ⟨_, rfl⟩
      have hn5b : n5 ≤ 10000 := by rw [← hn5, pkL_length]; omega
      rw [hn5] at hcs ⊢
      have HCS := Lib.hid hcs
      have HX5 := Lib.hid hx5
      clear hy5 ho5 hx5 hn5 hcs
      go_wp2_with fail
      go_loopw [7] (fun iv wv => ∃ j : Nat, j ≤ n5 ∧ iv = .int .i64 (j : Int) ∧ Hid (CsAt wv wr.heap.size wb.heap.size a5 n5) ∧ Hid (Ext wr wv)) (fun iv _ => n5 - (intOf iv).toNat)
      case atStart => exact ⟨0, Nat.zero_le _, rfl, HCS.out, HX5.out⟩
      case round =>
        clear HCS HX5
        obtain ⟨wv, hwv⟩ : ∃ wv, wv = wr := ⟨_, rfl⟩
        subst hwv
        obtain ⟨j, hj, rfl, HC, HV⟩ := hrel
        by_cases hjn : j < n5
        · obtain ⟨g, hga, ⟨hg1, hg2⟩, hcell⟩ := HC.out (by omega)
          subst hga
          obtain ⟨⟨xx, hxx, cx⟩, fx⟩ := hcell j hjn
          obtain ⟨y, hy, ey⟩ := xor_byte (xx : Int)
          have z1 : (0 : Int) ≤ (j : Int) := by omega
          have z2 : (j : Int) < (n5 : Int) := by omega
          clear hcell
          go_wp2
          go_roundw
          case rel => exact ⟨j + 1, by omega, by go_num, HC.out.set hy, HV.out.setCell (p := ⟨g, j, none⟩) hg1 _⟩
          case measure => simp [intOf]; omega
        · obtain rfl : j = n5 := by omega
          have HWv := Lib.hid (HW.out.ext HV.out)
          have HXv := Lib.hid (HX.out.ext HV.out)
          have HEv := Lib.hid (HE.out.trans HV.out)
          clear HC HV HW HX HE
          go_wp2_with fail
          refine (first2_any _ (hg.ext HEv.out)).mono ?_; rintro e wc ⟨rfl, hxc⟩
          go_wp2_with fail
          refine (wbytes_any b B l _ (HWv.out.ext hxc)).mono ?_; rintro e wd ⟨ud, rfl, hod, hxd⟩
          have hyd := Bys.of_owns hod (pkL_lt l) (by rw [pkL_length]; omega)
          go_wp2_with fail
          refine (xwbytes_any x B l _ ((HXv.out.ext hxc).ext hxd)).mono ?_; rintro e we ⟨ge, ne, rfl, hye, hxe⟩
          go_wp2_with fail
          refine (bytes_same (pkL l) _ _ _ (hyd.ext hxe) hye).mono ?_; rintro e wf ⟨rfl, rfl⟩
          go_wp2
          go_ret
          exact ⟨rfl, HEv.out.trans (hxc.trans (hxd.trans hxe))⟩
end Go.Proofs.YtehmgieocoppjaaDoor
