/- kinref13.Coder as a reader: an object and the blocks that it lies in: contracts over this seat's translation. -/
import Derived.Test.YtdndambkaohgiaaGreatDoorMd9
namespace Go.Proofs.YtdndambkaohgiaaGreatDoor
set_option linter.unusedVariables false
set_option linter.unusedSimpArgs false
open Go.RowKit Go.Extern.Stop Go.Stop Go.Extern

theorem XcAt.same {F : Nat → Prop} {w w' : World} {b : Nat} {bs : List Nat} {s : Xc} (h : XcAt F w b bs s) (kb : w'.heap[b]? = w.heap[b]?) (kg : ∀ g, ¬ F g → w'.heap[g]? = w.heap[g]?) : XcAt F w' b bs s := by
  obtain ⟨a, cap, h1, h3, h4⟩ := h
  refine ⟨a, cap, h1.same kb, ⟨?_, h3.2⟩, h4⟩
  obtain ⟨a', cap', e, e1, e2, e3, e4⟩ := h3.1
  refine ⟨a', cap', e, e1, e2, e3, fun g off ha j u hu => ?_⟩
  have c := e4 g off ha j u hu
  simp only [Value.slice.injEq] at e
  obtain ⟨rfl, -, -⟩ := e
  exact (World.cell?_of_block (a := ⟨g, off + j, none⟩) (kg g (h4 g off ha).2)).trans c
/-- a reader of the document's and its blocks -/
def DrF (a d : Nat) (bs : List Nat) (w : World) (F : Nat → Prop) (s : Ms Xc) : Prop := ∃ E, XcAt E w d bs s.co ∧ ChAt w a 3 s.ch ∧ (w.cell? ⟨a, 0, none⟩ = some (.bool true) ∧ w.cell? ⟨a, 2, none⟩ = some (.pointer (some ⟨d, 0, none⟩))) ∧ (d ≠ a ∧ E a) ∧ (F a ∧ F d) ∧ (∀ k, ¬ E k → F k) ∧ ∀ k, F k → k < w.heap.size
theorem DrF.lt {a d : Nat} {bs : List Nat} {w : World} {F : Nat → Prop} {s : Ms Xc} (h : DrF a d bs w F s) : ∀ k, F k → k < w.heap.size := by
  obtain ⟨E, h1, h2, h3, h4, h5, h6, h7⟩ := h
  exact h7
theorem DrF.same {a d : Nat} {bs : List Nat} {w w' : World} {F : Nat → Prop} {s : Ms Xc} (h : DrF a d bs w F s) (k : ∀ i, F i → w'.heap[i]? = w.heap[i]?) : DrF a d bs w' F s := by
  obtain ⟨E, h1, h2, h3, h4, h5, h6, h7⟩ := h
  have ka := k a h5.1
  refine ⟨E, h1.same (k d h5.2) (fun g hg => k g (h6 g hg)), h2.same ka, ⟨(World.cell?_of_block (a := ⟨a, 0, none⟩) ka).trans h3.1, (World.cell?_of_block (a := ⟨a, 2, none⟩) ka).trans h3.2⟩, h4, h5, h6, fun i hi => ?_⟩
  have e := k i hi
  rw [Array.getElem?_eq_getElem (h7 i hi)] at e
  exact (Array.getElem?_eq_some_iff.1 e).1
theorem DrF.ext {a d : Nat} {bs : List Nat} {w w' : World} {F : Nat → Prop} {s : Ms Xc} (h : DrF a d bs w F s) (k : Ext w w') : DrF a d bs w' F s := h.same (fun i hi => k.block (h.lt i hi))
theorem DrF.ch {a d : Nat} {bs : List Nat} {w : World} {F : Nat → Prop} {s : Ms Xc} (h : DrF a d bs w F s) : ChAt w a 3 s.ch := by obtain ⟨_, _, h, _⟩ := h; exact h
theorem DrF.inner {a d : Nat} {bs : List Nat} {w w' : World} {F E : Nat → Prop} {s : Ms Xc} {t : Xc} (h2 : ChAt w a 3 s.ch) (h3 : w.cell? ⟨a, 0, none⟩ = some (.bool true) ∧ w.cell? ⟨a, 2, none⟩ = some (.pointer (some ⟨d, 0, none⟩))) (h4 : d ≠ a ∧ E a) (h5 : F a ∧ F d) (h6 : ∀ k, ¬ E k → F k) (h7 : ∀ k, F k → k < w.heap.size) (k1 : XcAt E w' d bs t) (k2 : Kp d w w') :
    DrF a d bs w' F ⟨s.ch, t⟩ ∧ Step F w F w' := by
  have e := k2.block h2.lt (fun e => h4.1 e.symm)
  exact ⟨⟨E, k1, h2.same e, ⟨(World.cell?_of_block (a := ⟨a, 0, none⟩) e).trans h3.1, (World.cell?_of_block (a := ⟨a, 2, none⟩) e).trans h3.2⟩, h4, h5, h6, fun k hk => Nat.lt_of_lt_of_le (h7 k hk) k2.size⟩, Step.of_kp k2 h5.2⟩
theorem DrF.learn {a c p d : Nat} {bs : List Nat} {w : World} {F : Nat → Prop} {s : Ms Xc} (h : DrF a d bs w F s) (hc : c < 64) : DrF a d bs (w.setCell ⟨a, 3 + c, none⟩ (.int .i64 (p : Int))) F ⟨setM s.ch c p, s.co⟩ ∧ Step F w F (w.setCell ⟨a, 3 + c, none⟩ (.int .i64 (p : Int))) := by
  obtain ⟨E, h1, h2, h3, h4, h5, h6, h7⟩ := h
  exact ⟨⟨E, h1.kp ((Kp.refl a w).set (3 + c) _) h4.2 h4.1, h2.set hc p, ⟨(cell_off_ne _ (by omega)).trans h3.1, (cell_off_ne _ (by omega)).trans h3.2⟩, h4, h5, h6, by simpa using h7⟩, Step.of_kp ((Kp.refl a w).set (3 + c) _) h5.1⟩
set_option maxRecDepth 20000 in
theorem drflat_any (a N d : Nat) (bs : List Nat) (up : Bool) (s : Ms Xc) (F : Nat → Prop) (w : World) (h : DrF a d bs w F s) (hk : okS okYm N s) (hN : N ≤ 4000000) : Calls Tryz.prog 51 #[.pointer (some ⟨a, 0, none⟩), .bool up] w (FPost (DrF a d bs) F w (.bool (flaM (mY bs) s up).1) (flaM (mY bs) s up).2) := by
  obtain ⟨E, h1, h2, h3, h4, h5, h6, h7⟩ := h
  have UF := Lib.hid (xflat_any E d N bs s.co w h1 hk.2.1 (by omega) hk.2.2)
  have HI := Lib.hid (fun w' t (k1 : XcAt E w' d bs t) (k2 : Kp d w w') => DrF.inner (s := s) h2 h3 h4 h5 h6 h7 k1 k2)
  obtain ⟨c0, c1⟩ := h3
  show Calls Tryz.prog 51 _ w (FPost (DrF a d bs) F w (.bool (decide (s.co.rr / 2 ≤ s.co.dd))) ⟨s.ch, parX bs s.co (s.co.rr / 2)⟩)
  obtain ⟨V, hV⟩ : ∃ V, decide (s.co.rr / 2 ≤ s.co.dd) = V := ⟨_, rfl⟩
  rw [hV] at UF ⊢
  clear h1 h2 h4 h5 h6 h7 hk hV
  go_enter Tryz.func51, Tryz.ntmps51
  go_wp2_with fail
  refine (UF.out).mono ?_; rintro e w7 ⟨rfl, k1, k2⟩
  have HZ := Lib.hid (HI.out _ _ k1 k2)
  clear k1 k2
  go_wp2
  go_ret
  exact ⟨rfl, _, HZ.out⟩
set_option maxRecDepth 20000 in
set_option maxHeartbeats 4000000 in
theorem drbit_any (a N d : Nat) (bs : List Nat) (c : Int) (up : Bool) (s : Ms Xc) (F : Nat → Prop) (w : World) (h : DrF a d bs w F s) (hk : okS okYm N s) (hN : N ≤ 4000000) : Calls Tryz.prog 49 #[.pointer (some ⟨a, 0, none⟩), .int .i64 c, .bool up] w (FPost (DrF a d bs) F w (.bool (bitM (mY bs) s c up).1) (bitM (mY bs) s c up).2) := by
  cases hc : ctxM c
  · have hb : bitM (mY bs) s c up = flaM (mY bs) s up := by unfold bitM; rw [hc]; rfl
    rw [hb]
    have UF := Lib.hid (drflat_any a N d bs up s F w h hk hN)
    have hcc := ctx_of hc
    clear h hk hb hc
    rcases hcc with x1 | ⟨x1, x2⟩
    all_goals (
      go_enter Tryz.func49, Tryz.ntmps49
      go_wp2_with fail
      refine (UF.out).mono ?_; rintro e w7 ⟨rfl, k⟩
      have HZ := Lib.hid k
      clear k
      go_wp2
      go_ret
      exact ⟨rfl, HZ.out⟩)
  · have hc' : (decide (0 ≤ c) && decide (c < 64)) = true := hc
    rw [Bool.and_eq_true, decide_eq_true_iff, decide_eq_true_iff] at hc'
    obtain ⟨n, rfl⟩ : ∃ n : Nat, c = (n : Int) := ⟨c.toNat, by omega⟩
    have hn : n < 64 := by omega
    obtain ⟨E, h1, h2, h3, h4, h5, h6, h7⟩ := h
    obtain ⟨p, hp⟩ : ∃ p, s.ch n = p := ⟨_, rfl⟩
    obtain ⟨p1, p2⟩ := hk.1 n
    rw [hp] at p1 p2
    obtain ⟨V, hV⟩ : ∃ V, xcU s.co (p : Int) = V := ⟨_, rfl⟩
    have hbm : bitM (mY bs) s (n : Int) up = (V, ⟨setM s.ch n (lrnM p V), xcD bs s.co (p : Int)⟩) := by
      unfold bitM
      rw [hc, if_pos rfl, Int.toNat_natCast, hp, ← hV]
      rfl
    rw [hbm]
    have c0 := (h2 n hn).1
    rw [hp] at c0
    have UC := Lib.hid (xcode_any E d N (p : Int) bs s.co w h1 hk.2.1 (by omega) hk.2.2 (fun g hg => Classical.byContradiction fun he => by have := h7 g (h6 g he); omega))
    rw [hV] at UC
    have HI := Lib.hid (fun w' t (k1 : XcAt E w' d bs t) (k2 : Kp d w w') => DrF.inner (s := s) h2 h3 h4 h5 h6 h7 k1 k2)
    have HP := Lib.hid hp
    obtain ⟨c1, c2⟩ := h3
    have x1 : (0 : Int) ≤ (n : Int) := by omega
    have x2 : (n : Int) < 64 := by omega
    have x3 : ¬ (n : Int) < 0 := by omega
    have x4 : ¬ 63 < (n : Int) := by omega
    clear h1 h2 h4 h5 h6 h7 hk hbm hc' hp hc hV
    cases V
    · obtain ⟨q, hq⟩ : ∃ q, (2048 - p) / 32 = q := ⟨_, rfl⟩
      obtain ⟨z, hz⟩ : ∃ z, 2048 - p = z := ⟨_, rfl⟩
      have s1 : IntKind.i64.wrap (2048 - (p : Int)) = (z : Int) := by rw [IntKind.wrap_i64]; omega
      have s2 : Int.tdiv (z : Int) 32 = (q : Int) := by rw [← hq, ← hz, show (32 : Int) = ((32 : Nat) : Int) from rfl, Int.ofNat_tdiv]
      have s3 : IntKind.i64.wrap (q : Int) = (q : Int) := by rw [IntKind.wrap_i64]; omega
      have s4 : IntKind.i64.wrap ((p : Int) + (q : Int)) = ((p + q : Nat) : Int) := by rw [IntKind.wrap_i64]; omega
      have hl : lrnM p false = p + q := by rw [← hq]; rfl
      rw [hl]
      clear hq hz hl p1 p2
      go_enter Tryz.func49, Tryz.ntmps49
      go_wp2_with fail
      refine (UC.out).mono ?_; rintro e w5 ⟨ce, xe, rfl, -, k1, k2⟩
      have HZ := Lib.hid (HI.out _ _ k1 k2)
      have HL := Lib.hid (HZ.out.1.learn (c := n) (p := p + q) hn)
      obtain ⟨d0, f0⟩ := HZ.out.1.ch n hn
      have d0 : w5.cell? ⟨a, 3 + n, none⟩ = some (.int .i64 (s.ch n : Int)) := d0
      clear k1 k2
      go_wp2
      go_ret
      exact ⟨rfl, _, HL.out.1, HZ.out.2.trans HL.out.2⟩
    · obtain ⟨q, hq⟩ : ∃ q, p / 32 = q := ⟨_, rfl⟩
      have s2 : Int.tdiv (p : Int) 32 = (q : Int) := by rw [← hq, show (32 : Int) = ((32 : Nat) : Int) from rfl, Int.ofNat_tdiv]
      have s3 : IntKind.i64.wrap (q : Int) = (q : Int) := by rw [IntKind.wrap_i64]; omega
      have s4 : IntKind.i64.wrap ((p : Int) - (q : Int)) = ((p - q : Nat) : Int) := by rw [IntKind.wrap_i64]; omega
      have hl : lrnM p true = p - q := by rw [← hq]; rfl
      rw [hl]
      clear hq hl p1 p2
      go_enter Tryz.func49, Tryz.ntmps49
      go_wp2_with fail
      refine (UC.out).mono ?_; rintro e w5 ⟨ce, xe, rfl, -, k1, k2⟩
      have HZ := Lib.hid (HI.out _ _ k1 k2)
      have HL := Lib.hid (HZ.out.1.learn (c := n) (p := p - q) hn)
      obtain ⟨d0, f0⟩ := HZ.out.1.ch n hn
      have d0 : w5.cell? ⟨a, 3 + n, none⟩ = some (.int .i64 (s.ch n : Int)) := d0
      clear k1 k2
      go_wp2
      go_ret
      exact ⟨rfl, _, HL.out.1, HZ.out.2.trans HL.out.2⟩
theorem nrmX_wide {bs : List Nat} : ∀ (f : Nat) {s : Xc}, 16777216 ≤ s.rr * 256 ^ f → 16777216 ≤ (nrmX bs f s).rr
  | 0, s, h => by have h : 16777216 ≤ s.rr := by simpa using h
                  exact h
  | f + 1, s, h => by
    show 16777216 ≤ (if s.rr < 16777216 then nrmX bs f (stpX bs s) else s).rr
    split
    · exact nrmX_wide f (s := stpX bs s) (by show 16777216 ≤ s.rr * 256 * 256 ^ f; rw [Nat.mul_assoc, ← Nat.pow_succ']; exact h)
    · omega
theorem parX_wide {bs : List Nat} {s : Xc} {w : Nat} (h1 : 1 ≤ w) (h2 : w < s.rr) : 16777216 ≤ (parX bs s w).rr := by
  refine nrmX_wide 3 ?_
  unfold midX
  split
  · show 16777216 ≤ (s.rr - w) * 16777216
    omega
  · show 16777216 ≤ w * 16777216
    omega
theorem mkY {bs : List Nat} : Mk (mY bs) okYm := ⟨fun p b p1 p2 h => by
    refine ⟨(xcD_ok h.1 h.2).mono (by omega), ?_⟩
    show 16777216 ≤ (xcD bs _ (p : Int)).rr
    unfold xcD
    rw [chance_ok p1 p2, if_pos rfl, Int.toNat_natCast]
    exact parX_wide (part_of h.2 (by omega) (by omega)).1 (part_of h.2 (by omega) (by omega)).2, fun b h => ⟨(parX_ok h.1 (by have := h.2; omega)).mono (by omega), parX_wide (by have := h.2; omega) (by have := h.2; omega)⟩, fun h k => ⟨h.1.mono k, h.2⟩⟩
set_option maxRecDepth 20000 in
set_option maxHeartbeats 4000000 in
theorem fresh_any (a : Nat) (f : Nat → Nat) (w : World) (h : ChAt w a 3 f) : Calls Tryz.prog 37 #[.pointer (some ⟨a, 0, none⟩)] w fun e w' => e = .returned (.pointer (some ⟨a, 0, none⟩)) ∧ ChAt w' a 3 ch0 ∧ Kp a w w' ∧ ∀ i, i < 3 → w'.cell? ⟨a, i, none⟩ = w.cell? ⟨a, i, none⟩ := by
  have H0 : Hid (ChAt w a 3 (fun i => if i < 0 then 1024 else f i)) := fun i hi => h i hi
  clear h
  go_enter Tryz.func37, Tryz.ntmps37
  go_wp2_with fail
  go_loopw [3] (fun iv wr => ∃ k : Nat, k ≤ 64 ∧ iv = .int .i64 (k : Int) ∧ Hid (ChAt wr a 3 (fun i => if i < k then 1024 else f i)) ∧ Hid (Kp a w wr ∧ ∀ i, i < 3 → wr.cell? ⟨a, i, none⟩ = w.cell? ⟨a, i, none⟩)) (fun iv _ => 64 - (intOf iv).toNat)
  case atStart => exact ⟨0, Nat.zero_le _, rfl, H0.out, Kp.refl a w, fun _ _ => rfl⟩
  case round =>
    clear H0
    obtain ⟨k, hk, rfl, HD, HS⟩ := hrel
    by_cases hlt : k < 64
    · have x1 : (0 : Int) ≤ (k : Int) := by omega
      have x2 : (k : Int) < 64 := by omega
      have HD2 : Hid (ChAt (wr.setCell ⟨a, 3 + k, none⟩ (.int .i64 1024)) a 3 (fun i => if i < k + 1 then 1024 else f i)) := fun i hi => by
        have := (HD.out.set hlt 1024) i hi
        refine ⟨this.1.trans ?_, this.2⟩
        show some (Value.int .i64 ((if i = k then 1024 else if i < k then 1024 else f i : Nat) : Int)) = some (Value.int .i64 ((if i < k + 1 then 1024 else f i : Nat) : Int))
        by_cases e1 : i = k
        · rw [if_pos e1, if_pos (by omega)]
        · by_cases e2 : i < k
          · rw [if_neg e1, if_pos e2, if_pos (by omega)]
          · rw [if_neg e1, if_neg e2, if_neg (by omega)]
      have HS2 : Hid (Kp a w (wr.setCell ⟨a, 3 + k, none⟩ (.int .i64 1024)) ∧ ∀ i, i < 3 → (wr.setCell ⟨a, 3 + k, none⟩ (.int .i64 1024)).cell? ⟨a, i, none⟩ = w.cell? ⟨a, i, none⟩) := ⟨HS.out.1.set _ _, fun i hi => (cell_off_ne _ (by omega)).trans (HS.out.2 i hi)⟩
      obtain ⟨c0, f0⟩ := HD.out k hlt
      clear HD HS
      go_wp2
      go_roundw
      case rel => exact ⟨k + 1, by omega, by go_num, HD2.out, HS2.out⟩
      case measure => simp [intOf]; omega
    · obtain rfl : k = 64 := by omega
      have x2 : ¬ ((64 : Nat) : Int) < 64 := by omega
      have HD2 : Hid (ChAt wr a 3 ch0) := fun i hi => by
        have := HD.out i hi
        refine ⟨this.1.trans ?_, this.2⟩
        show some (Value.int .i64 ((if i < 64 then 1024 else f i : Nat) : Int)) = some (Value.int .i64 ((1024 : Nat) : Int))
        rw [if_pos hi]
      clear HD
      go_wp2
      go_ret
      exact ⟨rfl, HD2.out, HS.out⟩
def NdrPost (w : World) (bs : List Nat) (e : Ending) (w' : World) : Prop := ∃ a d F, e = .returned (.pointer (some ⟨a, 0, none⟩)) ∧ (∀ k, F k → w.heap.size ≤ k) ∧ DrF a d bs w' F ⟨ch0, nxN bs 4⟩ ∧ Ext w w'
set_option maxRecDepth 20000 in
theorem drnew_any (bs : List Nat) (v : Value) (w : World) (hv : Bys w v bs) : Calls Tryz.prog 21 #[v] w (NdrPost w bs) := by
  have HV := Lib.hid hv
  clear hv
  go_enter Tryz.func21, Tryz.ntmps21
  go_wp2_with fail
  refine (newxc_any bs v w HV.out).mono ?_; rintro e w2 ⟨d, rfl, hd, hD, hx2⟩
  have hd2 : d < w2.heap.size := by obtain ⟨_, _, h, _⟩ := hD; exact h.lt
  have hw1 : w.heap.size ≤ w2.heap.size := hx2.size
  have HE := Lib.hid hx2
  have HDD := Lib.hid hD
  clear hx2 hD
  go_wp2_with fail
  change Calls Tryz.prog _ _ (w2.alloc (.cells ([Value.bool true, .pointer none, .pointer (some ⟨d, 0, none⟩)] ++ mzt).toArray 50)) _
  have hh := heap_alloc_last w2 (.cells ([Value.bool true, .pointer none, .pointer (some ⟨d, 0, none⟩)] ++ mzt).toArray 50)
  have A := (Ext.refl w2).alloc (.cells ([Value.bool true, .pointer none, .pointer (some ⟨d, 0, none⟩)] ++ mzt).toArray 50)
  have hc : ChAt (w2.alloc (.cells ([Value.bool true, .pointer none, .pointer (some ⟨d, 0, none⟩)] ++ mzt).toArray 50)) w2.heap.size 3 (fun _ => 0) := fun i hi => by
    refine ⟨?_, fro_of hh⟩
    rw [cell_of_row _ _ _ _ _ _ hh, List.getElem?_toArray, List.getElem?_append_right (by simp)]
    rw [show 3 + i - [Value.bool true, .pointer none, .pointer (some ⟨d, 0, none⟩)].length = i by simp]
    exact rep_get 64 i _ hi
  have hc0 : (w2.alloc (.cells ([Value.bool true, .pointer none, .pointer (some ⟨d, 0, none⟩)] ++ mzt).toArray 50)).cell? ⟨w2.heap.size, 0, none⟩ = some (.bool true) := by rw [cell_of_row _ _ _ _ _ _ hh]; rfl
  have hc2 : (w2.alloc (.cells ([Value.bool true, .pointer none, .pointer (some ⟨d, 0, none⟩)] ++ mzt).toArray 50)).cell? ⟨w2.heap.size, 2, none⟩ = some (.pointer (some ⟨d, 0, none⟩)) := by rw [cell_of_row _ _ _ _ _ _ hh]; rfl
  have UF := Lib.hid (fresh_any _ _ _ hc)
  have HDA := Lib.hid (HDD.out.ext A)
  have HEA := Lib.hid (HE.out.trans A)
  have H02 := Lib.hid (And.intro hc0 hc2)
  clear hc hh hc0 hc2 HDD HE A
  refine (UF.out).mono ?_; rintro e w5 ⟨rfl, h1, h2, h3⟩
  have hs := h2.size
  have hs : w2.heap.size + 1 ≤ w5.heap.size := by simpa using hs
  have HC := Lib.hid h1
  have HK := Lib.hid (HDA.out.kp h2 (.inr (Nat.le_refl _)) (by omega))
  have H3 := Lib.hid h3
  have HE5 := Lib.hid (Kp.out HEA.out h2 (by omega))
  clear h1 h2 h3
  go_wp2
  go_ret
  refine ⟨w2.heap.size, d, fun k => w.heap.size ≤ k ∧ k < w2.heap.size + 1, rfl, fun k h => h.1, ⟨_, HK.out, HC.out, ⟨(H3.out 0 (by omega)).trans H02.out.1, (H3.out 2 (by omega)).trans H02.out.2⟩, ⟨by omega, .inr (Nat.le_refl _)⟩, ⟨⟨by omega, by omega⟩, by omega, by omega⟩, fun k hk => ?_, fun k hk => by omega⟩, HE5.out⟩
  rw [not_or] at hk
  omega
end Go.Proofs.YtdndambkaohgiaaGreatDoor
