/- kinref13.Coder as a writer: an object and the blocks that it lies in: contracts over this seat's translation. -/
import Derived.Test.YtdndambkaohgiaaGreatDoorZi
namespace Go.Proofs.YtdndambkaohgiaaGreatDoor
set_option linter.unusedVariables false
set_option linter.unusedSimpArgs false
open Go.RowKit Go.Extern.Stop Go.Stop Go.Extern

theorem nrmX'_ok {N : Nat} : ∀ (f : Nat) {s : Xe}, okX' N s → okX' (N + f) (nrmX' f s)
  | 0, _, h => h
  | f + 1, s, h => by
    show okX' _ (if s.rr < 16777216 then nrmX' f (stpX' s) else s)
    split
    · rename_i hw
      have := nrmX'_ok (N := N + 1) f (stpX'_ok h hw)
      rw [show N + 1 + f = N + (f + 1) by omega] at this
      exact this
    · exact h.mono (by omega)
theorem nrmX'_wide : ∀ (f : Nat) {s : Xe}, 16777216 ≤ s.rr * 256 ^ f → 16777216 ≤ (nrmX' f s).rr
  | 0, s, h => by have h : 16777216 ≤ s.rr := by simpa using h
                  exact h
  | f + 1, s, h => by
    show 16777216 ≤ (if s.rr < 16777216 then nrmX' f (stpX' s) else s).rr
    split
    · exact nrmX'_wide f (s := stpX' s) (by show 16777216 ≤ s.rr * 256 * 256 ^ f; rw [Nat.mul_assoc, ← Nat.pow_succ']; exact h)
    · omega
theorem parX'_ok {N w : Nat} {s : Xe} {up : Bool} (h : okX' N s) (h1 : 1 ≤ w) (h2 : w < s.rr) : okXm (N + 4) (parX' s w up) := by
  obtain ⟨k1, k2⟩ := midX'_ok (up := up) h (Nat.le_of_lt h2)
  refine ⟨(nrmX'_ok 3 k1).mono (by omega), nrmX'_wide 3 ?_⟩
  rw [k2]
  show 16777216 ≤ _ * 16777216
  split <;> omega
theorem mkX : Mk mX okXm := ⟨fun p b p1 p2 h => by
    show okXm _ (codX' _ (p : Int) b)
    unfold codX'
    rw [chance_ok p1 p2, if_pos rfl, Int.toNat_natCast]
    exact parX'_ok h.1 (part_of h.2 (by omega) (by omega)).1 (part_of h.2 (by omega) (by omega)).2, fun b h => parX'_ok h.1 (by have := h.2; omega) (by have := h.2; omega), fun h k => ⟨h.1.mono k, h.2⟩⟩
/-- a kinref12.Encoder and its blocks -/
def XnF (b : Nat) (w : World) (F : Nat → Prop) (s : Xe) : Prop := ∃ v, XeBox w b v s.rr ∧ w.ownsRow 0 5 1 v s.bs.length (byC s.bs) ∧ v.ownBlock ≠ some b ∧ ∀ k, F k ↔ (k = b ∨ v.ownBlock = some k)
theorem XnF.lt {b : Nat} {w : World} {F : Nat → Prop} {s : Xe} (h : XnF b w F s) : ∀ k, F k → k < w.heap.size := by
  obtain ⟨v, h1, h2, h3, h4⟩ := h
  intro k hk
  rcases (h4 k).1 hk with rfl | hk
  · exact h1.lt
  · exact (h2.lt k hk).2
theorem XnF.same {b : Nat} {w w' : World} {F : Nat → Prop} {s : Xe} (h : XnF b w F s) (k : ∀ i, F i → w'.heap[i]? = w.heap[i]?) : XnF b w' F s := by
  obtain ⟨v, h1, h2, h3, h4⟩ := h
  exact ⟨v, h1.same (k b ((h4 b).2 (.inl rfl))), own_block h2 (fun g hg => k g ((h4 g).2 (.inr hg))), h3, h4⟩
theorem XnF.ext {b : Nat} {w w' : World} {F : Nat → Prop} {s : Xe} (h : XnF b w F s) (k : Ext w w') : XnF b w' F s := h.same (fun i hi => k.block (h.lt i hi))
theorem XnF.xe {b : Nat} {w : World} {F : Nat → Prop} {s : Xe} (h : XnF b w F s) : ∃ P, XeAt w b P s ∧ ∀ s' w', XeAt w' b P s' → PKp b P w w' → ∃ F', XnF b w' F' s' ∧ Step F w F' w' := by
  obtain ⟨v, h1, h2, h3, h4⟩ := h
  refine ⟨fun k => k = b ∨ (k < w.heap.size ∧ v.ownBlock ≠ some k), ⟨v, h1, h2, ?_, .inl rfl, ?_⟩, ?_⟩
  · rintro g hg (rfl | ⟨-, h⟩)
    · exact h3 hg
    · exact h hg
  · rintro g (rfl | ⟨h, -⟩)
    · exact h1.lt
    · exact h
  · rintro s' w' ⟨v', k1, k2, k3, -, -⟩ hk
    refine ⟨fun k => k = b ∨ v'.ownBlock = some k, ⟨v', k1, k2, fun e => k3 b e (.inl rfl), fun _ => Iff.rfl⟩, ⟨hk.1, hk.2.1, fun k hk2 hn => ?_⟩, ?_⟩
    · have hn' : k ≠ b ∧ v.ownBlock ≠ some k := ⟨fun e => hn ((h4 k).2 (.inl e)), fun e => hn ((h4 k).2 (.inr e))⟩
      exact hk.2.2 k hk2 hn'.1 (.inl (.inr ⟨hk2, hn'.2⟩))
    · rintro k (rfl | hk2)
      · exact .inl ((h4 k).2 (.inl rfl))
      · have := k3 k hk2
        rw [not_or, Classical.not_and_iff_not_or_not, Classical.not_not] at this
        rcases this.2 with e | e
        · exact .inr (by omega)
        · exact .inl ((h4 k).2 (.inr e))
theorem xnf_flat (b N : Nat) (up : Bool) (s : Xe) (F : Nat → Prop) (w : World) (h : XnF b w F s) (hk : okXm N s) (hN : N ≤ 4000000) : Calls Tryz.prog 83 #[.pointer (some ⟨b, 0, none⟩), .bool up] w (FPost (XnF b) F w (.tuple #[]) (parX' s (s.rr / 2) up)) := by
  obtain ⟨P, h1, h2⟩ := h.xe
  refine (xeflat_any b P N up s w h1 hk.1 (by omega) hk.2).mono ?_
  rintro e w' ⟨rfl, k1, k2⟩
  exact ⟨rfl, h2 _ _ k1 k2⟩
theorem xnf_code (b N : Nat) (p : Int) (up : Bool) (s : Xe) (F : Nat → Prop) (w : World) (h : XnF b w F s) (hk : okXm N s) (hN : N ≤ 4000000) : Calls Tryz.prog 81 #[.pointer (some ⟨b, 0, none⟩), .int .i64 p, .bool up] w (FPost (XnF b) F w (.agg #[.int .i64 (chC p), .slice none 0 0]) (codX' s p up)) := by
  obtain ⟨P, h1, h2⟩ := h.xe
  refine (xecode_any b P N p up s w h1 hk.1 (by omega) hk.2).mono ?_
  rintro e w' ⟨rfl, k1, k2⟩
  exact ⟨rfl, h2 _ _ k1 k2⟩
theorem xnf_end (b N : Nat) (s : Xe) (F : Nat → Prop) (w : World) (h : XnF b w F s) (hk : okXm N s) (hN : N ≤ 4000000) : Calls Tryz.prog 19 #[.pointer (some ⟨b, 0, none⟩)] w (XvPost w (trimE s.bs)) := by
  obtain ⟨P, h1, h2⟩ := h.xe
  exact xeend_any b P N s w h1 hk.1 (by omega)
/-- a writer of the document's and its blocks -/
def DwF (a : Nat) (w : World) (F : Nat → Prop) (s : Ms Xe) : Prop := ∃ b G, XnF b w G s.co ∧ ChAt w a 3 s.ch ∧ (w.cell? ⟨a, 0, none⟩ = some (.bool false) ∧ w.cell? ⟨a, 1, none⟩ = some (.pointer (some ⟨b, 0, none⟩))) ∧ ¬ G a ∧ ∀ k, F k ↔ (k = a ∨ G k)
theorem DwF.lt {a : Nat} {w : World} {F : Nat → Prop} {s : Ms Xe} (h : DwF a w F s) : ∀ k, F k → k < w.heap.size := by
  obtain ⟨b, G, h1, h2, h3, h4, h5⟩ := h
  intro k hk
  rcases (h5 k).1 hk with rfl | hk
  · exact h2.lt
  · exact h1.lt k hk
theorem DwF.same {a : Nat} {w w' : World} {F : Nat → Prop} {s : Ms Xe} (h : DwF a w F s) (k : ∀ i, F i → w'.heap[i]? = w.heap[i]?) : DwF a w' F s := by
  obtain ⟨b, G, h1, h2, h3, h4, h5⟩ := h
  have ka := k a ((h5 a).2 (.inl rfl))
  exact ⟨b, G, h1.same (fun i hi => k i ((h5 i).2 (.inr hi))), h2.same ka, ⟨(World.cell?_of_block (a := ⟨a, 0, none⟩) ka).trans h3.1, (World.cell?_of_block (a := ⟨a, 1, none⟩) ka).trans h3.2⟩, h4, h5⟩
theorem DwF.ext {a : Nat} {w w' : World} {F : Nat → Prop} {s : Ms Xe} (h : DwF a w F s) (k : Ext w w') : DwF a w' F s := h.same (fun i hi => k.block (h.lt i hi))
theorem DwF.ch {a : Nat} {w : World} {F : Nat → Prop} {s : Ms Xe} (h : DwF a w F s) : ChAt w a 3 s.ch := by obtain ⟨_, _, _, h, _⟩ := h; exact h
theorem DwF.inner {a b : Nat} {w w' : World} {F G G' : Nat → Prop} {s : Ms Xe} {t : Xe} (h2 : ChAt w a 3 s.ch) (h3 : w.cell? ⟨a, 0, none⟩ = some (.bool false) ∧ w.cell? ⟨a, 1, none⟩ = some (.pointer (some ⟨b, 0, none⟩))) (h4 : ¬ G a) (h5 : ∀ k, F k ↔ (k = a ∨ G k)) (k1 : XnF b w' G' t) (k2 : Step G w G' w') :
    DwF a w' (fun k => k = a ∨ G' k) ⟨s.ch, t⟩ ∧ Step F w (fun k => k = a ∨ G' k) w' := by
  have ha := h2.lt
  have e := k2.1.2.2 a ha h4
  refine ⟨⟨b, G', k1, h2.same e, ⟨(World.cell?_of_block (a := ⟨a, 0, none⟩) e).trans h3.1, (World.cell?_of_block (a := ⟨a, 1, none⟩) e).trans h3.2⟩, fun hg => (k2.2 a hg).elim h4 (by omega), fun _ => Iff.rfl⟩, ⟨k2.1.1, k2.1.2.1, fun k hk hn => k2.1.2.2 k hk (fun hg => hn ((h5 k).2 (.inr hg)))⟩, ?_⟩
  rintro k (rfl | hg)
  · exact .inl ((h5 k).2 (.inl rfl))
  · exact (k2.2 k hg).imp (fun h => (h5 k).2 (.inr h)) id
theorem DwF.learn {a c p : Nat} {w : World} {F : Nat → Prop} {s : Ms Xe} (h : DwF a w F s) (hc : c < 64) : DwF a (w.setCell ⟨a, 3 + c, none⟩ (.int .i64 (p : Int))) F ⟨setM s.ch c p, s.co⟩ ∧ Step F w F (w.setCell ⟨a, 3 + c, none⟩ (.int .i64 (p : Int))) := by
  obtain ⟨b, G, h1, h2, h3, h4, h5⟩ := h
  exact ⟨⟨b, G, h1.same (fun i hi => Below.heap_setCell _ _ _ _ (fun e => h4 (by rw [show i = a from e] at hi; exact hi))), h2.set hc p, ⟨(cell_off_ne _ (by omega)).trans h3.1, (cell_off_ne _ (by omega)).trans h3.2⟩, h4, h5⟩, Step.of_kp ((Kp.refl a w).set (3 + c) _) ((h5 a).2 (.inl rfl))⟩
set_option maxRecDepth 20000 in
theorem dwflat_any (a N : Nat) (up : Bool) (s : Ms Xe) (F : Nat → Prop) (w : World) (h : DwF a w F s) (hk : okS okXm N s) (hN : N ≤ 4000000) : Calls Tryz.prog 51 #[.pointer (some ⟨a, 0, none⟩), .bool up] w (FPost (DwF a) F w (.bool (flaM mX s up).1) (flaM mX s up).2) := by
  obtain ⟨b, G, h1, h2, h3, h4, h5⟩ := h
  have UF := Lib.hid (xnf_flat b N up s.co G w h1 hk.2 hN)
  have HI := Lib.hid (fun w' G' t (k1 : XnF b w' G' t) (k2 : Step G w G' w') => DwF.inner (s := s) h2 h3 h4 h5 k1 k2)
  obtain ⟨c0, c1⟩ := h3
  show Calls Tryz.prog 51 _ w (FPost (DwF a) F w (.bool up) ⟨s.ch, parX' s.co (s.co.rr / 2) up⟩)
  clear h1 h2 h4 h5 hk
  go_enter Tryz.func51, Tryz.ntmps51
  go_wp2_with fail
  refine (UF.out).mono ?_; rintro e w7 ⟨rfl, G', k1, k2⟩
  have HZ := Lib.hid (HI.out _ _ _ k1 k2)
  clear k1 k2
  go_wp2
  go_ret
  exact ⟨rfl, _, HZ.out⟩
theorem ctx_of {c : Int} (h : ctxM c = false) : c < 0 ∨ (¬ c < 0 ∧ 63 < c) := by
  unfold ctxM at h
  by_cases h1 : c < 0
  · exact .inl h1
  · refine .inr ⟨h1, ?_⟩
    rw [decide_eq_true (by omega : 0 ≤ c), Bool.true_and, decide_eq_false_iff_not] at h
    omega
set_option maxRecDepth 20000 in
set_option maxHeartbeats 4000000 in
theorem dwbit_any (a N : Nat) (c : Int) (up : Bool) (s : Ms Xe) (F : Nat → Prop) (w : World) (h : DwF a w F s) (hk : okS okXm N s) (hN : N ≤ 4000000) : Calls Tryz.prog 49 #[.pointer (some ⟨a, 0, none⟩), .int .i64 c, .bool up] w (FPost (DwF a) F w (.bool (bitM mX s c up).1) (bitM mX s c up).2) := by
  cases hc : ctxM c
  · have hb : bitM mX s c up = flaM mX s up := by unfold bitM; rw [hc]; rfl
    rw [hb]
    have UF := Lib.hid (dwflat_any a N up s F w h hk hN)
    have hcc := ctx_of hc
    clear h hk hb hc
    rcases hcc with x1 | ⟨x1, x2⟩
    all_goals (
      go_enter Tryz.func49, Tryz.ntmps49
      go_wp2_with fail
      refine (UF.out).mono ?_; rintro e w7 ⟨rfl, k⟩
      have HZ := Lib.hid k
      clear k
      go_wp2
      go_ret
      exact ⟨rfl, HZ.out⟩)
  · have hc' : (decide (0 ≤ c) && decide (c < 64)) = true := hc
    rw [Bool.and_eq_true, decide_eq_true_iff, decide_eq_true_iff] at hc'
    obtain ⟨n, rfl⟩ : ∃ n : Nat, c = (n : Int) := ⟨c.toNat, by omega⟩
    have hn : n < 64 := by omega
    obtain ⟨b, G, h1, h2, h3, h4, h5⟩ := h
    obtain ⟨p, hp⟩ : ∃ p, s.ch n = p := ⟨_, rfl⟩
    obtain ⟨p1, p2⟩ := hk.1 n
    rw [hp] at p1 p2
    have hbm : bitM mX s (n : Int) up = (up, ⟨setM s.ch n (lrnM p up), codX' s.co (p : Int) up⟩) := by
      unfold bitM
      rw [hc, if_pos rfl, Int.toNat_natCast, hp]
      rfl
    rw [hbm]
    have c0 := (h2 n hn).1
    rw [hp] at c0
    have UC := Lib.hid (xnf_code b N (p : Int) up s.co G w h1 hk.2 hN)
    have HI := Lib.hid (fun w' G' t (k1 : XnF b w' G' t) (k2 : Step G w G' w') => DwF.inner (s := s) h2 h3 h4 h5 k1 k2)
    have HP := Lib.hid hp
    obtain ⟨c1, c2⟩ := h3
    have x1 : (0 : Int) ≤ (n : Int) := by omega
    have x2 : (n : Int) < 64 := by omega
    have x3 : ¬ (n : Int) < 0 := by omega
    have x4 : ¬ 63 < (n : Int) := by omega
    clear h1 h2 h4 h5 hk hbm hc' hp hc
    cases up
    · obtain ⟨q, hq⟩ : ∃ q, (2048 - p) / 32 = q := ⟨_, rfl⟩
      obtain ⟨z, hz⟩ : ∃ z, 2048 - p = z := ⟨_, rfl⟩
      have s1 : IntKind.i64.wrap (2048 - (p : Int)) = (z : Int) := by rw [IntKind.wrap_i64]; omega
      have s2 : Int.tdiv (z : Int) 32 = (q : Int) := by rw [← hq, ← hz, show (32 : Int) = ((32 : Nat) : Int) from rfl, Int.ofNat_tdiv]
      have s3 : IntKind.i64.wrap (q : Int) = (q : Int) := by rw [IntKind.wrap_i64]; omega
      have s4 : IntKind.i64.wrap ((p : Int) + (q : Int)) = ((p + q : Nat) : Int) := by rw [IntKind.wrap_i64]; omega
      have hl : lrnM p false = p + q := by rw [← hq]; rfl
      rw [hl]
      clear hq hz hl p1 p2
      go_enter Tryz.func49, Tryz.ntmps49
      go_wp2_with fail
      refine (UC.out).mono ?_; rintro e w5 ⟨rfl, G', k1, k2⟩
      have HZ := Lib.hid (HI.out _ _ _ k1 k2)
      have HL := Lib.hid (HZ.out.1.learn (c := n) (p := p + q) hn)
      obtain ⟨d0, f0⟩ := HZ.out.1.ch n hn
      have d0 : w5.cell? ⟨a, 3 + n, none⟩ = some (.int .i64 (s.ch n : Int)) := d0
      clear k1 k2
      go_wp2
      go_ret
      exact ⟨rfl, _, HL.out.1, HZ.out.2.trans HL.out.2⟩
    · obtain ⟨q, hq⟩ : ∃ q, p / 32 = q := ⟨_, rfl⟩
      have s2 : Int.tdiv (p : Int) 32 = (q : Int) := by rw [← hq, show (32 : Int) = ((32 : Nat) : Int) from rfl, Int.ofNat_tdiv]
      have s3 : IntKind.i64.wrap (q : Int) = (q : Int) := by rw [IntKind.wrap_i64]; omega
      have s4 : IntKind.i64.wrap ((p : Int) - (q : Int)) = ((p - q : Nat) : Int) := by rw [IntKind.wrap_i64]; omega
      have hl : lrnM p true = p - q := by rw [← hq]; rfl
      rw [hl]
      clear hq hl p1 p2
      go_enter Tryz.func49, Tryz.ntmps49
      go_wp2_with fail
      refine (UC.out).mono ?_; rintro e w5 ⟨rfl, G', k1, k2⟩
      have HZ := Lib.hid (HI.out _ _ _ k1 k2)
      have HL := Lib.hid (HZ.out.1.learn (c := n) (p := p - q) hn)
      obtain ⟨d0, f0⟩ := HZ.out.1.ch n hn
      have d0 : w5.cell? ⟨a, 3 + n, none⟩ = some (.int .i64 (s.ch n : Int)) := d0
      clear k1 k2
      go_wp2
      go_ret
      exact ⟨rfl, _, HL.out.1, HZ.out.2.trans HL.out.2⟩
end Go.Proofs.YtdndambkaohgiaaGreatDoor
