/- Contracts of this seat: Md8, Md9, Md10, Md11. -/
import Derived.Test.YtkfdhnmlebnfkaaZi
import Derived.Test.YtkfdhnmlebnfkaaZj
import Derived.Deep.WholeRow
/- kinref13.Coder as a writer: an object and the blocks that it lies in: contracts over this seat's translation. -/
namespace Go.Proofs.Ytkfdhnmlebnfkaa
set_option linter.unusedVariables false
set_option linter.unusedSimpArgs false
open Go.RowKit Go.Extern.Stop Go.Stop Go.Extern

theorem nrmX'_ok {N : Nat} : ∀ (f : Nat) {s : Xe}, okX' N s → okX' (N + f) (nrmX' f s)
  | 0, _, h => h
  | f + 1, s, h => by
    show okX' _ (if s.rr < 16777216 then nrmX' f (stpX' s) else s)
    split
    · rename_i hw
      have := nrmX'_ok (N := N + 1) f (stpX'_ok h hw)
      rw [show N + 1 + f = N + (f + 1) by omega] at this
      exact this
    · exact h.mono (by omega)
theorem nrmX'_wide : ∀ (f : Nat) {s : Xe}, 16777216 ≤ s.rr * 256 ^ f → 16777216 ≤ (nrmX' f s).rr
  | 0, s, h => by have h : 16777216 ≤ s.rr := by simpa using h
                  exact h
  | f + 1, s, h => by
    show 16777216 ≤ (if s.rr < 16777216 then nrmX' f (stpX' s) else s).rr
    split
    · exact nrmX'_wide f (s := stpX' s) (by show 16777216 ≤ s.rr * 256 * 256 ^ f; rw [Nat.mul_assoc, ← Nat.pow_succ']; exact h)
    · omega
theorem parX'_ok {N w : Nat} {s : Xe} {up : Bool} (h : okX' N s) (h1 : 1 ≤ w) (h2 : w < s.rr) : okXm (N + 4) (parX' s w up) := by
  obtain ⟨k1, k2⟩ := midX'_ok (up := up) h (Nat.le_of_lt h2)
  refine ⟨(nrmX'_ok 3 k1).mono (by omega), nrmX'_wide 3 ?_⟩
  rw [k2]
  show 16777216 ≤ _ * 16777216
  split <;> omega
theorem mkX : Mk mX okXm := ⟨fun p b p1 p2 h => by
    show okXm _ (codX' _ (p : Int) b)
    unfold codX'
    rw [chance_ok p1 p2, if_pos rfl, Int.toNat_natCast]
    exact parX'_ok h.1 (part_of h.2 (by omega) (by omega)).1 (part_of h.2 (by omega) (by omega)).2, fun b h => parX'_ok h.1 (by have := h.2; omega) (by have := h.2; omega), fun h k => ⟨h.1.mono k, h.2⟩⟩
/-- a kinref12.Encoder and its blocks -/
def XnF (b : Nat) (w : World) (F : Nat → Prop) (s : Xe) : Prop := ∃ v, XeBox w b v s.rr ∧ w.ownsRow 0 5 1 v s.bs.length (byC s.bs) ∧ v.ownBlock ≠ some b ∧ ∀ k, F k ↔ (k = b ∨ v.ownBlock = some k)
theorem XnF.lt {b : Nat} {w : World} {F : Nat → Prop} {s : Xe} (h : XnF b w F s) : ∀ k, F k → k < w.heap.size := by
  obtain ⟨v, h1, h2, h3, h4⟩ := h
  intro k hk
  rcases (h4 k).1 hk with rfl | hk
  · exact h1.lt
  · exact (h2.lt k hk).2
theorem XnF.same {b : Nat} {w w' : World} {F : Nat → Prop} {s : Xe} (h : XnF b w F s) (k : ∀ i, F i → w'.heap[i]? = w.heap[i]?) : XnF b w' F s := by
  obtain ⟨v, h1, h2, h3, h4⟩ := h
  exact ⟨v, h1.same (k b ((h4 b).2 (.inl rfl))), own_block h2 (fun g hg => k g ((h4 g).2 (.inr hg))), h3, h4⟩
theorem XnF.ext {b : Nat} {w w' : World} {F : Nat → Prop} {s : Xe} (h : XnF b w F s) (k : Ext w w') : XnF b w' F s := h.same (fun i hi => k.block (h.lt i hi))
theorem XnF.xe {b : Nat} {w : World} {F : Nat → Prop} {s : Xe} (h : XnF b w F s) : ∃ P, XeAt w b P s ∧ ∀ s' w', XeAt w' b P s' → PKp b P w w' → ∃ F', XnF b w' F' s' ∧ Step F w F' w' := by
  obtain ⟨v, h1, h2, h3, h4⟩ := h
  refine ⟨fun k => k = b ∨ (k < w.heap.size ∧ v.ownBlock ≠ some k), ⟨v, h1, h2, ?_, .inl rfl, ?_⟩, ?_⟩
  · rintro g hg (rfl | ⟨-, h⟩)
    · exact h3 hg
    · exact h hg
  · rintro g (rfl | ⟨h, -⟩)
    · exact h1.lt
    · exact h
  · rintro s' w' ⟨v', k1, k2, k3, -, -⟩ hk
    refine ⟨fun k => k = b ∨ v'.ownBlock = some k, ⟨v', k1, k2, fun e => k3 b e (.inl rfl), fun _ => Iff.rfl⟩, ⟨hk.1, hk.2.1, fun k hk2 hn => ?_⟩, ?_⟩
    · have hn' : k ≠ b ∧ v.ownBlock ≠ some k := ⟨fun e => hn ((h4 k).2 (.inl e)), fun e => hn ((h4 k).2 (.inr e))⟩
      exact hk.2.2 k hk2 hn'.1 (.inl (.inr ⟨hk2, hn'.2⟩))
    · rintro k (rfl | hk2)
      · exact .inl ((h4 k).2 (.inl rfl))
      · have := k3 k hk2
        rw [not_or, Classical.not_and_iff_not_or_not, Classical.not_not] at this
        rcases this.2 with e | e
        · exact .inr (by omega)
        · exact .inl ((h4 k).2 (.inr e))
theorem xnf_flat (b N : Nat) (up : Bool) (s : Xe) (F : Nat → Prop) (w : World) (h : XnF b w F s) (hk : okXm N s) (hN : N ≤ 900000) : Calls Try.prog 45 #[.pointer (some ⟨b, 0, none⟩), .bool up] w (FPost (XnF b) F w (.tuple #[]) (parX' s (s.rr / 2) up)) := by
  obtain ⟨P, h1, h2⟩ := h.xe
  refine (xeflat_any b P N up s w h1 hk.1 hN hk.2).mono ?_
  rintro e w' ⟨rfl, k1, k2⟩
  exact ⟨rfl, h2 _ _ k1 k2⟩
theorem xnf_code (b N : Nat) (p : Int) (up : Bool) (s : Xe) (F : Nat → Prop) (w : World) (h : XnF b w F s) (hk : okXm N s) (hN : N ≤ 900000) : Calls Try.prog 43 #[.pointer (some ⟨b, 0, none⟩), .int .i64 p, .bool up] w (FPost (XnF b) F w (.agg #[.int .i64 (chC p), .slice none 0 0]) (codX' s p up)) := by
  obtain ⟨P, h1, h2⟩ := h.xe
  refine (xecode_any b P N p up s w h1 hk.1 hN hk.2).mono ?_
  rintro e w' ⟨rfl, k1, k2⟩
  exact ⟨rfl, h2 _ _ k1 k2⟩
/-- a writer of the document's and its blocks -/
def DwF (a : Nat) (w : World) (F : Nat → Prop) (s : Ms Xe) : Prop := ∃ b G, XnF b w G s.co ∧ ChAt w a 3 s.ch ∧ (w.cell? ⟨a, 0, none⟩ = some (.bool false) ∧ w.cell? ⟨a, 1, none⟩ = some (.pointer (some ⟨b, 0, none⟩))) ∧ ¬ G a ∧ ∀ k, F k ↔ (k = a ∨ G k)
theorem DwF.lt {a : Nat} {w : World} {F : Nat → Prop} {s : Ms Xe} (h : DwF a w F s) : ∀ k, F k → k < w.heap.size := by
  obtain ⟨b, G, h1, h2, h3, h4, h5⟩ := h
  intro k hk
  rcases (h5 k).1 hk with rfl | hk
  · exact h2.lt
  · exact h1.lt k hk
theorem DwF.same {a : Nat} {w w' : World} {F : Nat → Prop} {s : Ms Xe} (h : DwF a w F s) (k : ∀ i, F i → w'.heap[i]? = w.heap[i]?) : DwF a w' F s := by
  obtain ⟨b, G, h1, h2, h3, h4, h5⟩ := h
  have ka := k a ((h5 a).2 (.inl rfl))
  exact ⟨b, G, h1.same (fun i hi => k i ((h5 i).2 (.inr hi))), h2.same ka, ⟨(World.cell?_of_block (a := ⟨a, 0, none⟩) ka).trans h3.1, (World.cell?_of_block (a := ⟨a, 1, none⟩) ka).trans h3.2⟩, h4, h5⟩
theorem DwF.ext {a : Nat} {w w' : World} {F : Nat → Prop} {s : Ms Xe} (h : DwF a w F s) (k : Ext w w') : DwF a w' F s := h.same (fun i hi => k.block (h.lt i hi))
theorem DwF.ch {a : Nat} {w : World} {F : Nat → Prop} {s : Ms Xe} (h : DwF a w F s) : ChAt w a 3 s.ch := by obtain ⟨_, _, _, h, _⟩ := h; exact h
theorem DwF.inner {a b : Nat} {w w' : World} {F G G' : Nat → Prop} {s : Ms Xe} {t : Xe} (h2 : ChAt w a 3 s.ch) (h3 : w.cell? ⟨a, 0, none⟩ = some (.bool false) ∧ w.cell? ⟨a, 1, none⟩ = some (.pointer (some ⟨b, 0, none⟩))) (h4 : ¬ G a) (h5 : ∀ k, F k ↔ (k = a ∨ G k)) (k1 : XnF b w' G' t) (k2 : Step G w G' w') :
    DwF a w' (fun k => k = a ∨ G' k) ⟨s.ch, t⟩ ∧ Step F w (fun k => k = a ∨ G' k) w' := by
  have ha := h2.lt
  have e := k2.1.2.2 a ha h4
  refine ⟨⟨b, G', k1, h2.same e, ⟨(World.cell?_of_block (a := ⟨a, 0, none⟩) e).trans h3.1, (World.cell?_of_block (a := ⟨a, 1, none⟩) e).trans h3.2⟩, fun hg => (k2.2 a hg).elim h4 (by omega), fun _ => Iff.rfl⟩, ⟨k2.1.1, k2.1.2.1, fun k hk hn => k2.1.2.2 k hk (fun hg => hn ((h5 k).2 (.inr hg)))⟩, ?_⟩
  rintro k (rfl | hg)
  · exact .inl ((h5 k).2 (.inl rfl))
  · exact (k2.2 k hg).imp (fun h => (h5 k).2 (.inr h)) id
theorem DwF.learn {a c p : Nat} {w : World} {F : Nat → Prop} {s : Ms Xe} (h : DwF a w F s) (hc : c < 64) : DwF a (w.setCell ⟨a, 3 + c, none⟩ (.int .i64 (p : Int))) F ⟨setM s.ch c p, s.co⟩ ∧ Step F w F (w.setCell ⟨a, 3 + c, none⟩ (.int .i64 (p : Int))) := by
  obtain ⟨b, G, h1, h2, h3, h4, h5⟩ := h
  exact ⟨⟨b, G, h1.same (fun i hi => Below.heap_setCell _ _ _ _ (fun e => h4 (by rw [show i = a from e] at hi; exact hi))), h2.set hc p, ⟨(cell_off_ne _ (by omega)).trans h3.1, (cell_off_ne _ (by omega)).trans h3.2⟩, h4, h5⟩, Step.of_kp ((Kp.refl a w).set (3 + c) _) ((h5 a).2 (.inl rfl))⟩
set_option maxRecDepth 20000 in
theorem dwflat_any (a N : Nat) (up : Bool) (s : Ms Xe) (F : Nat → Prop) (w : World) (h : DwF a w F s) (hk : okS okXm N s) (hN : N ≤ 900000) : Calls Try.prog 28 #[.pointer (some ⟨a, 0, none⟩), .bool up] w (FPost (DwF a) F w (.bool (flaM mX s up).1) (flaM mX s up).2) := by
  obtain ⟨b, G, h1, h2, h3, h4, h5⟩ := h
  have UF := Lib.hid (xnf_flat b N up s.co G w h1 hk.2 hN)
  have HI := Lib.hid (fun w' G' t (k1 : XnF b w' G' t) (k2 : Step G w G' w') => DwF.inner (s := s) h2 h3 h4 h5 k1 k2)
  obtain ⟨c0, c1⟩ := h3
  show Calls Try.prog 28 _ w (FPost (DwF a) F w (.bool up) ⟨s.ch, parX' s.co (s.co.rr / 2) up⟩)
  clear h1 h2 h4 h5 hk
  go_enter Try.func28, Try.ntmps28
  go_wp2_with fail
  refine (UF.out).mono ?_; rintro e w7 ⟨rfl, G', k1, k2⟩
  have HZ := Lib.hid (HI.out _ _ _ k1 k2)
  clear k1 k2
  go_wp2
  go_ret
  exact ⟨rfl, _, HZ.out⟩
theorem ctx_of {c : Int} (h : ctxM c = false) : c < 0 ∨ (¬ c < 0 ∧ 63 < c) := by
  unfold ctxM at h
  by_cases h1 : c < 0
  · exact .inl h1
  · refine .inr ⟨h1, ?_⟩
    rw [decide_eq_true (by omega : 0 ≤ c), Bool.true_and, decide_eq_false_iff_not] at h
    omega
set_option maxRecDepth 20000 in
set_option maxHeartbeats 4000000 in
theorem dwbit_any (a N : Nat) (c : Int) (up : Bool) (s : Ms Xe) (F : Nat → Prop) (w : World) (h : DwF a w F s) (hk : okS okXm N s) (hN : N ≤ 900000) : Calls Try.prog 27 #[.pointer (some ⟨a, 0, none⟩), .int .i64 c, .bool up] w (FPost (DwF a) F w (.bool (bitM mX s c up).1) (bitM mX s c up).2) := by
  cases hc : ctxM c
  · have hb : bitM mX s c up = flaM mX s up := by unfold bitM; rw [hc]; rfl
    rw [hb]
    have UF := Lib.hid (dwflat_any a N up s F w h hk hN)
    have hcc := ctx_of hc
    clear h hk hb hc
    rcases hcc with x1 | ⟨x1, x2⟩
    all_goals (
      go_enter Try.func27, Try.ntmps27
      go_wp2_with fail
      refine (UF.out).mono ?_; rintro e w7 ⟨rfl, k⟩
      have HZ := Lib.hid k
      clear k
      go_wp2
      go_ret
      exact ⟨rfl, HZ.out⟩)
  · have hc' : (decide (0 ≤ c) && decide (c < 64)) = true := hc
    rw [Bool.and_eq_true, decide_eq_true_iff, decide_eq_true_iff] at hc'
    obtain ⟨n, rfl⟩ : ∃ n : Nat, c = (n : Int) := ⟨c.toNat, by omega⟩
    have hn : n < 64 := by omega
    obtain ⟨b, G, h1, h2, h3, h4, h5⟩ := h
    obtain ⟨p, hp⟩ : ∃ p, s.ch n = p := ⟨_, rfl⟩
    obtain ⟨p1, p2⟩ := hk.1 n
    rw [hp] at p1 p2
    have hbm : bitM mX s (n : Int) up = (up, ⟨setM s.ch n (lrnM p up), codX' s.co (p : Int) up⟩) := by
      unfold bitM
      rw [hc, if_pos rfl, Int.toNat_natCast, hp]
      rfl
    rw [hbm]
    have c0 := (h2 n hn).1
    rw [hp] at c0
    have UC := Lib.hid (xnf_code b N (p : Int) up s.co G w h1 hk.2 hN)
    have HI := Lib.hid (fun w' G' t (k1 : XnF b w' G' t) (k2 : Step G w G' w') => DwF.inner (s := s) h2 h3 h4 h5 k1 k2)
    have HP := Lib.hid hp
    obtain ⟨c1, c2⟩ := h3
    have x1 : (0 : Int) ≤ (n : Int) := by omega
    have x2 : (n : Int) < 64 := by omega
    have x3 : ¬ (n : Int) < 0 := by omega
    have x4 : ¬ 63 < (n : Int) := by omega
    clear h1 h2 h4 h5 hk hbm hc' hp hc
    cases up
    · obtain ⟨q, hq⟩ : ∃ q, (2048 - p) / 32 = q := ⟨_, rfl⟩
      obtain ⟨z, hz⟩ : ∃ z, 2048 - p = z := ⟨_, rfl⟩
      have s1 : IntKind.i64.wrap (2048 - (p : Int)) = (z : Int) := by rw [IntKind.wrap_i64]; omega
      have s2 : Int.tdiv (z : Int) 32 = (q : Int) := by rw [← hq, ← hz, show (32 : Int) = ((32 : Nat) : Int) from rfl, Int.ofNat_tdiv]
      have s3 : IntKind.i64.wrap (q : Int) = (q : Int) := by rw [IntKind.wrap_i64]; omega
      have s4 : IntKind.i64.wrap ((p : Int) + (q : Int)) = ((p + q : Nat) : Int) := by rw [IntKind.wrap_i64]; omega
      have hl : lrnM p false = p + q := by rw [← hq]; rfl
      rw [hl]
      clear hq hz hl p1 p2
      go_enter Try.func27, Try.ntmps27
      go_wp2_with fail
      refine (UC.out).mono ?_; rintro e w5 ⟨rfl, G', k1, k2⟩
      have HZ := Lib.hid (HI.out _ _ _ k1 k2)
      have HL := Lib.hid (HZ.out.1.learn (c := n) (p := p + q) hn)
      obtain ⟨d0, f0⟩ := HZ.out.1.ch n hn
      have d0 : w5.cell? ⟨a, 3 + n, none⟩ = some (.int .i64 (s.ch n : Int)) := d0
      clear k1 k2
      go_wp2
      go_ret
      exact ⟨rfl, _, HL.out.1, HZ.out.2.trans HL.out.2⟩
    · obtain ⟨q, hq⟩ : ∃ q, p / 32 = q := ⟨_, rfl⟩
      have s2 : Int.tdiv (p : Int) 32 = (q : Int) := by rw [← hq, show (32 : Int) = ((32 : Nat) : Int) from rfl, Int.ofNat_tdiv]
      have s3 : IntKind.i64.wrap (q : Int) = (q : Int) := by rw [IntKind.wrap_i64]; omega
      have s4 : IntKind.i64.wrap ((p : Int) - (q : Int)) = ((p - q : Nat) : Int) := by rw [IntKind.wrap_i64]; omega
      have hl : lrnM p true = p - q := by rw [← hq]; rfl
      rw [hl]
      clear hq hl p1 p2
      go_enter Try.func27, Try.ntmps27
      go_wp2_with fail
      refine (UC.out).mono ?_; rintro e w5 ⟨rfl, G', k1, k2⟩
      have HZ := Lib.hid (HI.out _ _ _ k1 k2)
      have HL := Lib.hid (HZ.out.1.learn (c := n) (p := p - q) hn)
      obtain ⟨d0, f0⟩ := HZ.out.1.ch n hn
      have d0 : w5.cell? ⟨a, 3 + n, none⟩ = some (.int .i64 (s.ch n : Int)) := d0
      clear k1 k2
      go_wp2
      go_ret
      exact ⟨rfl, _, HL.out.1, HZ.out.2.trans HL.out.2⟩
set_option maxRecDepth 20000 in
theorem dch_any (a : Nat) (c : Int) (f : Nat → Nat) (w : World) (h : ChAt w a 3 f) : Calls Try.prog 15 #[.pointer (some ⟨a, 0, none⟩), .int .i64 c] w fun e w' => e = .returned (.int .i64 (chV f c)) ∧ w = w' := by
  cases hc : ctxM c
  · have hv : chV f c = 0 := by unfold chV; rw [hc]; rfl
    rw [hv]
    have hcc := ctx_of hc
    clear hv hc h
    rcases hcc with x1 | ⟨x1, x2⟩
    all_goals (
      go_enter Try.func15, Try.ntmps15
      go_wp2
      go_ret
      exact ⟨rfl, rfl⟩)
  · have hv : chV f c = (f c.toNat : Int) := by unfold chV; rw [hc]; rfl
    have hc' : (decide (0 ≤ c) && decide (c < 64)) = true := hc
    rw [Bool.and_eq_true, decide_eq_true_iff, decide_eq_true_iff] at hc'
    obtain ⟨n, rfl⟩ : ∃ n : Nat, c = (n : Int) := ⟨c.toNat, by omega⟩
    rw [Int.toNat_natCast] at hv
    have hn : n < 64 := by omega
    have c0 := (h n hn).1
    rw [hv]
    have x1 : (0 : Int) ≤ (n : Int) := by omega
    have x2 : (n : Int) < 64 := by omega
    have x3 : ¬ (n : Int) < 0 := by omega
    have x4 : ¬ 63 < (n : Int) := by omega
    clear hv hc hc' h
    go_enter Try.func15, Try.ntmps15
    go_wp2
    go_ret
    exact ⟨rfl, rfl⟩
end Go.Proofs.Ytkfdhnmlebnfkaa

/- kinref13: Writer; Kind, Mode, Part, and kinlaw13.wants with a writer: contracts over this seat's translation. -/
namespace Go.Proofs.Ytkfdhnmlebnfkaa
set_option linter.unusedVariables false
set_option linter.unusedSimpArgs false
open Go.RowKit Go.Extern.Stop Go.Stop Go.Extern

def kinL {σ : Type} (M : Mc σ) (k : Int) : Nat → Nat → Ms σ → Nat × Ms σ
  | 0, n, s => (n, s)
  | f + 1, n, s => if (bitM M s (n : Int) (decide ((n : Int) < k))).1 then kinL M k f (n + 1) (bitM M s (n : Int) (decide ((n : Int) < k))).2 else (n, (bitM M s (n : Int) (decide ((n : Int) < k))).2)
theorem kind_L {σ : Type} (M : Mc σ) (k : Int) (s : Ms σ) : kindM M s k = kinL M k 3 0 s := by
  show kindM M s k = (if (bitM M s 0 (decide (0 < k))).1 = true then (if (bitM M (bitM M s 0 (decide (0 < k))).2 1 (decide (1 < k))).1 = true then (if (bitM M (bitM M (bitM M s 0 (decide (0 < k))).2 1 (decide (1 < k))).2 2 (decide (2 < k))).1 = true then (3, _) else (2, _)) else (1, _)) else (0, _))
  unfold kindM
  split
  · split
    · split <;> rfl
    · rfl
  · rfl
theorem kin_yes {σ : Type} {M : Mc σ} {k : Int} {f n : Nat} {s s1 : Ms σ} (h : bitM M s (n : Int) (decide ((n : Int) < k)) = (true, s1)) : kinL M k (f + 1) n s = kinL M k f (n + 1) s1 := by
  show (if _ = true then _ else _) = _
  rw [h]
  rfl
theorem kin_no {σ : Type} {M : Mc σ} {k : Int} {f n : Nat} {s s1 : Ms σ} (h : bitM M s (n : Int) (decide ((n : Int) < k)) = (false, s1)) : kinL M k (f + 1) n s = (n, s1) := by
  show (if _ = true then _ else _) = _
  rw [h]
  rfl
theorem XnF.new {b g cap : Nat} {w : World} (h : XeBox w b (.slice (some ⟨g, 0, none⟩) 4 cap) 4294967295) (ho : w.ownsRow 0 5 1 (.slice (some ⟨g, 0, none⟩) 4 cap) 4 (byC [0, 0, 0, 0])) (hg : g ≠ b) : XnF b w (fun k => k = b ∨ k = g) newX :=
  ⟨_, h, ho, fun e => hg (Option.some.inj e), fun k => ⟨fun e => e.imp id (fun e => by rw [e]; rfl), fun e => e.imp id (fun e => (Option.some.inj e).symm)⟩⟩
theorem own_zero2 {w : World} {base : Nat} {e : TypeId} {size n : Nat} {v : Value} {xs : List Value} (h : w.ownsRow base e size v n xs) : w.ownsRow 0 e size v n xs := by
  obtain ⟨h1, h2⟩ := h
  refine ⟨h1, ?_⟩
  rcases h2 with h2 | ⟨g, cap, cur, rfl, hg, hh, r⟩
  · exact .inl h2
  · exact .inr ⟨g, cap, cur, rfl, Nat.zero_le _, hh, r⟩
theorem DwF.congr {a : Nat} {w : World} {F : Nat → Prop} {f g : Nat → Nat} {t : Xe} (h : DwF a w F ⟨f, t⟩) (e : ∀ i, i < 64 → f i = g i) : DwF a w F ⟨g, t⟩ := by
  obtain ⟨b, G, h1, h2, h3, h4, h5⟩ := h
  exact ⟨b, G, h1, fun i hi => by show w.cell? ⟨a, 3 + i, none⟩ = some (.int .i64 (g i : Int)) ∧ _; rw [← e i hi]; exact h2 i hi, h3, h4, h5⟩
set_option maxRecDepth 20000 in
set_option maxHeartbeats 4000000 in
theorem dwfresh_any (a : Nat) (f : Nat → Nat) (F : Nat → Prop) (w : World) (h : DwF a w F ⟨f, newX⟩) : Calls Try.prog 25 #[.pointer (some ⟨a, 0, none⟩)] w fun e w' => e = .returned (.pointer (some ⟨a, 0, none⟩)) ∧ DwF a w' F ⟨ch0, newX⟩ ∧ Step F w F w' := by
  have H0 : Hid (DwF a w F ⟨fun i => if i < 0 then 1024 else f i, newX⟩) := h.congr (fun i _ => by rw [if_neg (by omega)])
  clear h
  go_enter Try.func25, Try.ntmps25
  go_wp2_with fail
  go_loopw [3] (fun iv wr => ∃ k : Nat, k ≤ 64 ∧ iv = .int .i64 (k : Int) ∧ Hid (DwF a wr F ⟨fun i => if i < k then 1024 else f i, newX⟩) ∧ Hid (Step F w F wr)) (fun iv _ => 64 - (intOf iv).toNat)
  case atStart => exact ⟨0, Nat.zero_le _, rfl, H0.out, Step.refl F w⟩
  case round =>
    clear H0
    obtain ⟨k, hk, rfl, HD, HS⟩ := hrel
    by_cases hlt : k < 64
    · have x1 : (0 : Int) ≤ (k : Int) := by omega
      have x2 : (k : Int) < 64 := by omega
      have HL := Lib.hid (HD.out.learn (c := k) (p := 1024) hlt)
      have HD2 : Hid (DwF a (wr.setCell ⟨a, 3 + k, none⟩ (.int .i64 1024)) F ⟨fun i => if i < k + 1 then 1024 else f i, newX⟩) := HL.out.1.congr (fun i _ => by
        show setM (fun i => if i < k then 1024 else f i) k 1024 i = if i < k + 1 then 1024 else f i
        unfold setM
        by_cases e1 : i = k
        · rw [if_pos e1, if_pos (by omega)]
        · by_cases e2 : i < k
          · rw [if_neg e1, if_pos (by omega)]
            exact if_pos e2
          · rw [if_neg e1, if_neg (by omega)]
            exact if_neg e2)
      have HS2 := Lib.hid (HS.out.trans HL.out.2)
      obtain ⟨c0, f0⟩ := HD.out.ch k hlt
      clear HL HD HS
      go_wp2
      go_roundw
      case rel => exact ⟨k + 1, by omega, by go_num, HD2.out, HS2.out⟩
      case measure => simp [intOf]; omega
    · obtain rfl : k = 64 := by omega
      have x2 : ¬ ((64 : Nat) : Int) < 64 := by omega
      have HD2 : Hid (DwF a wr F ⟨ch0, newX⟩) := HD.out.congr (fun i hi => if_pos hi)
      clear HD
      go_wp2
      go_ret
      exact ⟨rfl, HD2.out, HS.out⟩
def NdwPost (w : World) (e : Ending) (w' : World) : Prop := ∃ a F, e = .returned (.pointer (some ⟨a, 0, none⟩)) ∧ (∀ k, F k → w.heap.size ≤ k) ∧ DwF a w' F ⟨ch0, newX⟩ ∧ Ext w w'
set_option maxRecDepth 20000 in
set_option maxHeartbeats 4000000 in
theorem dwkind_any (a N : Nat)  (k : Int) (s : Ms Xe) (F : Nat → Prop) (w : World) (h : (DwF a) w F s) (hk : okS okXm N s) (hN : N ≤ 899000) : Calls Try.prog 29 #[.pointer (some ⟨a, 0, none⟩), .int .i64 k] w (FPost (DwF a) F w (.int .i64 ((kindM mX s k).1 : Int)) (kindM mX s k).2) := by
  have UB := Lib.hid ((fun N c up s F w h hk hN => dwbit_any a N c up s F w h hk hN))
  rw [kind_L]
  have H0 := Lib.hid h
  have HK0 := Lib.hid hk
  clear h hk
  go_enter Try.func29, Try.ntmps29
  go_wp2_with fail
  go_loopw [5] (fun iv wr => ∃ (n : Nat) (t : Ms Xe) (G : Nat → Prop), n ≤ 3 ∧ iv = .int .i64 (n : Int) ∧ Hid (kinL mX k 3 0 s = kinL mX k (3 - n) n t) ∧ Hid (okS okXm (N + 4 * n) t) ∧ Hid ((DwF a) wr G t) ∧ Hid (Step F w G wr)) (fun iv _ => 3 - (intOf iv).toNat)
  case atStart => exact ⟨0, s, F, Nat.zero_le _, rfl, rfl, HK0.out, H0.out, Step.refl F w⟩
  case round =>
    clear H0 HK0
    obtain ⟨n, t, G, hn, rfl, HS, HK, HO, HG⟩ := hrel
    by_cases hlt : n < 3
    · obtain ⟨f, hf⟩ : ∃ f, 3 - n = f + 1 := ⟨2 - n, by omega⟩
      have hs := HS.out
      rw [hf] at hs
      obtain ⟨bz, hbz⟩ : ∃ b, decide ((n : Int) < k) = b := ⟨_, rfl⟩
      obtain ⟨⟨V2, t1⟩, e2⟩ : ∃ r, bitM mX t (n : Int) (decide ((n : Int) < k)) = r := ⟨_, rfl⟩
      have HY : Hid (V2 = true → kinL mX k 3 0 s = kinL mX k (3 - (n + 1)) (n + 1) t1) := fun e => by
        subst e
        rw [hs, kin_yes e2, show 3 - (n + 1) = f by omega]
      have HN : Hid (V2 = false → kinL mX k 3 0 s = (n, t1)) := fun e => by
        subst e
        rw [hs, kin_no e2]
      have k3 := bit_ok mkX (n : Int) (decide ((n : Int) < k)) HK.out
      rw [e2] at k3
      have HK3 : Hid (okS okXm (N + 4 * (n + 1)) t1) := k3
      have U2 := Lib.hid (UB.out (N + 4 * n) (n : Int) (decide ((n : Int) < k)) t G wr HO.out HK.out (by omega))
      rw [e2, hbz] at U2
      have x1 : (n : Int) < 3 := by omega
      have d3 := hbz
      clear hs hf hbz e2 k3 HS HK HO
      go_wp2_with fail
      refine (U2.out).mono ?_; rintro e w3 ⟨rfl, G3, h3, g3⟩
      have H3 := Lib.hid h3
      have G3' := Lib.hid (HG.out.trans g3)
      clear h3 g3 HG
      cases V2
      · have HRR := Lib.hid (HN.out rfl)
        clear HN HY U2 UB
        go_wp2
        go_ret
        exact ⟨by rw [HRR.out]; rfl, G3, by rw [HRR.out]; exact H3.out, G3'.out⟩
      · have HS3 := Lib.hid (HY.out rfl)
        clear HN HY U2
        go_wp2
        go_roundw
        case rel => exact ⟨n + 1, t1, G3, by omega, by go_num, HS3.out, HK3.out, H3.out, G3'.out⟩
        case measure => simp [intOf]; omega
    · obtain rfl : n = 3 := by omega
      have x1 : ¬ ((3 : Nat) : Int) < 3 := by omega
      have HRR : Hid (kinL mX k 3 0 s = (3, t)) := HS.out
      clear HS HK UB
      go_wp2
      go_ret
      exact ⟨by rw [HRR.out]; rfl, G, by rw [HRR.out]; exact HO.out, HG.out⟩
set_option maxRecDepth 20000 in
set_option maxHeartbeats 4000000 in
theorem dwmode_any (a N : Nat)  (k : Int) (s : Ms Xe) (F : Nat → Prop) (w : World) (h : (DwF a) w F s) (hk : okS okXm N s) (hN : N ≤ 899000) : Calls Try.prog 30 #[.pointer (some ⟨a, 0, none⟩), .int .i64 k] w (FPost (DwF a) F w (.int .i64 ((modeM mX s (cl3 k)).1 : Int)) (modeM mX s (cl3 k)).2) := by
  have UB := Lib.hid ((fun N c up s F w h hk hN => dwbit_any a N c up s F w h hk hN))
  obtain ⟨m, hm⟩ : ∃ m, cl3 k = m := ⟨_, rfl⟩
  have hmk : min (max k 0) 3 = (m : Int) := by rw [← hm]; unfold cl3; omega
  rw [hm]
  have hm4 : m ≤ 3 := by omega
  obtain ⟨r, hr⟩ : ∃ r, m % 2 = r := ⟨_, rfl⟩
  have s1 : Int.tmod (m : Int) 2 = (r : Int) := by rw [← hr, show (2 : Int) = ((2 : Nat) : Int) from rfl, Int.ofNat_tmod]
  obtain ⟨b1, hb1⟩ : ∃ b, decide (1 < m) = b := ⟨_, rfl⟩
  obtain ⟨b2, hb2⟩ : ∃ b, decide (m % 2 = 1) = b := ⟨_, rfl⟩
  have d1 : decide (1 < (m : Int)) = b1 := by rw [← hb1]; exact decide_eq_decide.2 (by omega)
  have d2 : ((r : Int) == 1) = b2 := by
    rw [← hb2]
    by_cases e : m % 2 = 1
    · rw [decide_eq_true e, beq_iff_eq]; omega
    · rw [decide_eq_false e, beq_eq_false_iff_ne]; omega
  obtain ⟨⟨V0, t1⟩, e0⟩ : ∃ r, bitM mX s 3 b1 = r := ⟨_, rfl⟩
  obtain ⟨⟨V1, t2⟩, e1⟩ : ∃ r, bitM mX t1 5 b2 = r := ⟨_, rfl⟩
  obtain ⟨⟨V2, t3⟩, e2⟩ : ∃ r, bitM mX t1 4 b2 = r := ⟨_, rfl⟩
  have k1 := bit_ok mkX 3 b1 hk
  rw [e0] at k1
  have HR : Hid (modeM mX s m = if V0 then (if V1 then 3 else 2, t2) else (if V2 then 1 else 0, t3)) := by
    show _ = _
    unfold modeM
    rw [hb1, hb2, e0]
    show (if V0 = true then (if (bitM mX t1 5 b2).1 = true then 3 else 2, (bitM mX t1 5 b2).2) else (if (bitM mX t1 4 b2).1 = true then 1 else 0, (bitM mX t1 4 b2).2)) = _
    rw [e1, e2]
  have U0 := Lib.hid (UB.out N 3 b1 s F w h hk (by omega))
  have U1 := Lib.hid (fun F w' (h : (DwF a) w' F t1) => UB.out (N + 4) 5 b2 t1 F w' h k1 (by omega))
  have U2 := Lib.hid (fun F w' (h : (DwF a) w' F t1) => UB.out (N + 4) 4 b2 t1 F w' h k1 (by omega))
  rw [e0] at U0
  rw [e1] at U1
  rw [e2] at U2
  clear h hk k1 hb1 hb2 e0 e1 e2 UB hm hr hm4
  go_enter Try.func30, Try.ntmps30
  go_wp2_with fail
  refine (U0.out).mono ?_; rintro e w1 ⟨rfl, F1, h1, g1⟩
  have H1 := Lib.hid h1
  have G1 := Lib.hid g1
  clear h1 g1
  cases V0
  · go_wp2_with fail
    refine (U2.out _ _ H1.out).mono ?_; rintro e w2 ⟨rfl, F2, h2, g2⟩
    have H2 := Lib.hid h2
    have G2 := Lib.hid (G1.out.trans g2)
    clear h2 g2 H1 G1
    cases V2
    all_goals (
      go_wp2
      go_ret
      exact ⟨by rw [HR.out]; rfl, F2, by rw [HR.out]; exact H2.out, G2.out⟩)
  · go_wp2_with fail
    refine (U1.out _ _ H1.out).mono ?_; rintro e w2 ⟨rfl, F2, h2, g2⟩
    have H2 := Lib.hid h2
    have G2 := Lib.hid (G1.out.trans g2)
    clear h2 g2 H1 G1
    cases V1
    all_goals (
      go_wp2
      go_ret
      exact ⟨by rw [HR.out]; rfl, F2, by rw [HR.out]; exact H2.out, G2.out⟩)
set_option maxRecDepth 20000 in
set_option maxHeartbeats 4000000 in
theorem dwpart_any (a N : Nat)  (k : Int) (s : Ms Xe) (F : Nat → Prop) (w : World) (h : (DwF a) w F s) (hk : okS okXm N s) (hN : N ≤ 899000) : Calls Try.prog 31 #[.pointer (some ⟨a, 0, none⟩), .int .i64 k] w (FPost (DwF a) F w (.int .i64 (partM mX s (cl15 k)).1) (partM mX s (cl15 k)).2) := by
  have UB := Lib.hid ((fun N c up s F w h hk hN => dwbit_any a N c up s F w h hk hN))
  have UF := Lib.hid ((fun N up s F w h hk hN => dwflat_any a N up s F w h hk hN))
  obtain ⟨v, hv⟩ : ∃ v, cl15 k = v := ⟨_, rfl⟩
  have hvk : min (max k (-15)) 15 = v := by rw [← hv]; unfold cl15; omega
  rw [hv]
  have hv1 : -15 ≤ v := by omega
  have hv2 : v ≤ 15 := by omega
  have q1 : IntKind.i64.wrap (-v) = -v := by rw [IntKind.wrap_i64]; omega
  obtain ⟨z, hz⟩ : ∃ z, (v.natAbs : Int) - 1 = z := ⟨_, rfl⟩
  have hzm : max v (-v) - 1 = z := by rw [← hz]; omega
  have q2 : IntKind.i64.wrap z = z := by rw [IntKind.wrap_i64]; omega
  have q3 : IntKind.i64.wrap (max v (-v) - 1) = z := by rw [hzm]; exact q2
  obtain ⟨b0, hb0⟩ : ∃ b, decide (v ≠ 0) = b := ⟨_, rfl⟩
  obtain ⟨b1, hb1⟩ : ∃ b, decide (v < 0) = b := ⟨_, rfl⟩
  have d0 : (v != 0) = b0 := by
    rw [← hb0]
    by_cases e : v = 0
    · subst e; rfl
    · rw [decide_eq_true e]; exact bne_iff_ne.2 e
  obtain ⟨⟨V0, s1⟩, e0⟩ : ∃ r, bitM mX s 6 b0 = r := ⟨_, rfl⟩
  obtain ⟨⟨V1, s2⟩, e1⟩ : ∃ r, flaM mX s1 b1 = r := ⟨_, rfl⟩
  have k1 := bit_ok mkX 6 b0 hk
  rw [e0] at k1
  have k2 := fla_ok mkX b1 k1
  rw [e1] at k2
  have HR := Lib.hid (part_split (M := mX) (s := s) (v := v) (by rw [hb0, e0]) (by rw [hb1, e1]))
  rw [hz] at HR
  have HK2 := Lib.hid k2
  have U0 := Lib.hid (UB.out N 6 b0 s F w h hk (by omega))
  have U1 := Lib.hid (fun F w' (h : (DwF a) w' F s1) => UF.out (N + 4) b1 s1 F w' h k1 (by omega))
  rw [e0] at U0
  rw [e1] at U1
  clear h hk k1 k2 hb0 e0 e1 UF hv hz hzm q2
  go_enter Try.func31, Try.ntmps31
  go_wp2_with fail
  refine (U0.out).mono ?_; rintro e w1 ⟨rfl, F1, h1, g1⟩
  have H1 := Lib.hid h1
  have G1 := Lib.hid g1
  clear h1 g1
  cases V0
  · go_wp2
    go_ret
    exact ⟨by rw [HR.out]; rfl, F1, by rw [HR.out]; exact H1.out, G1.out⟩
  · go_wp2_with fail
    refine (U1.out _ _ H1.out).mono ?_; rintro e w2 ⟨rfl, F2, h2, g2⟩
    have H2 := Lib.hid h2
    have G2 := Lib.hid (G1.out.trans g2)
    clear h2 g2 H1 G1 U0 U1
    go_wp2_with fail
    go_loopw [7] (fun iv wr => ∃ (n : Nat) (t : Ms Xe) (G : Nat → Prop), n ≤ 14 ∧ iv = .int .i64 (n : Int) ∧ Hid (sizM mX z 14 0 s2 = sizM mX z (14 - n) n t) ∧ Hid (okS okXm (N + 4 + 4 + 4 * n) t) ∧ Hid ((DwF a) wr G t) ∧ Hid (Step F w G wr)) (fun iv _ => 14 - (intOf iv).toNat)
    case atStart => exact ⟨0, s2, F2, Nat.zero_le _, rfl, rfl, HK2.out, H2.out, G2.out⟩
    case round =>
      clear H2 G2 HK2
      obtain ⟨n, t, G, hn, rfl, HS, HK, HO, HG⟩ := hrel
      by_cases hlt : n < 14
      · obtain ⟨f, hf⟩ : ∃ f, 14 - n = f + 1 := ⟨13 - n, by omega⟩
        have hs := HS.out
        rw [hf] at hs
        obtain ⟨C, hC⟩ : ∃ C : Nat, 7 + min n 6 = C := ⟨_, rfl⟩
        obtain ⟨bz, hbz⟩ : ∃ b, decide ((n : Int) < z) = b := ⟨_, rfl⟩
        obtain ⟨⟨V2, t1⟩, e2⟩ : ∃ r, bitM mX t ((7 + min n 6 : Nat) : Int) (decide ((n : Int) < z)) = r := ⟨_, rfl⟩
        have HY : Hid (V2 = true → sizM mX z 14 0 s2 = sizM mX z (14 - (n + 1)) (n + 1) t1) := fun e => by
          subst e
          rw [hs, siz_yes e2, show 14 - (n + 1) = f by omega]
        have HN : Hid (V2 = false → sizM mX z 14 0 s2 = (n, t1)) := fun e => by
          subst e
          rw [hs, siz_no e2]
        have k3 := bit_ok mkX ((7 + min n 6 : Nat) : Int) (decide ((n : Int) < z)) HK.out
        rw [e2] at k3
        have HK3 : Hid (okS okXm (N + 4 + 4 + 4 * (n + 1)) t1) := k3
        have U2 := Lib.hid (UB.out (N + 4 + 4 + 4 * n) ((7 + min n 6 : Nat) : Int) (decide ((n : Int) < z)) t G wr HO.out HK.out (by omega))
        rw [e2, hbz, hC] at U2
        have x1 : (n : Int) < 14 := by omega
        have q4 : IntKind.i64.wrap (7 + min (n : Int) 6) = (C : Int) := by rw [IntKind.wrap_i64]; omega
        have d3 := hbz
        clear hs hf hC hbz e2 k3 HS HK HO
        go_wp2_with fail
        refine (U2.out).mono ?_; rintro e w3 ⟨rfl, G3, h3, g3⟩
        have H3 := Lib.hid h3
        have G3' := Lib.hid (HG.out.trans g3)
        clear h3 g3 HG
        cases V2
        · have HRR := HN.out rfl
          have q5 : IntKind.i64.wrap (-(n : Int)) = -(n : Int) := by rw [IntKind.wrap_i64]; omega
          have q6 : IntKind.i64.wrap (-(n : Int) - 1) = -(n : Int) - 1 := by rw [IntKind.wrap_i64]; omega
          have q7 : IntKind.i64.wrap ((n : Int) + 1) = (n : Int) + 1 := by rw [IntKind.wrap_i64]; omega
          have hr := HR.out
          rw [HRR] at hr
          have HR2 := Lib.hid hr
          clear hr HRR HR HN HY U2 UB
          cases V1
          all_goals (
            go_wp2
            go_ret
            exact ⟨by rw [HR2.out]; rfl, G3, by rw [HR2.out]; exact H3.out, G3'.out⟩)
        · have HS3 := Lib.hid (HY.out rfl)
          clear HN HY U2
          go_wp2
          go_roundw
          case rel => exact ⟨n + 1, t1, G3, by omega, by go_num, HS3.out, HK3.out, H3.out, G3'.out⟩
          case measure => simp [intOf]; omega
      · obtain rfl : n = 14 := by omega
        have x1 : ¬ ((14 : Nat) : Int) < 14 := by omega
        have hr := HR.out
        rw [show sizM mX z 14 0 s2 = (14, t) from HS.out] at hr
        have HR2 := Lib.hid hr
        clear hr HR HS HK UB
        cases V1
        all_goals (
          go_wp2
          go_ret
          exact ⟨by rw [HR2.out]; rfl, G, by rw [HR2.out]; exact HO.out, HG.out⟩)
set_option maxRecDepth 20000 in
set_option maxHeartbeats 4000000 in
theorem dwask_any (a N : Nat)  (o : Mo) (s : Ms Xe) (F : Nat → Prop) (w : World) (h : (DwF a) w F s) (hk : okS okXm N s) (hN : N ≤ 899000) : Calls Try.prog 11 #[.pointer (some ⟨a, 0, none⟩), .agg #[.int .i64 o.k, .int .i64 o.c, .int .i64 o.v, .bool o.b]] w (FPost (DwF a) F w (.int .i64 (askM mX s o).1) (askM mX s o).2) := by
  obtain ⟨k, c, v, b⟩ := o
  show Calls Try.prog 11 #[_, .agg #[.int .i64 k, .int .i64 c, .int .i64 v, .bool b]] w _
  have A := (Ext.refl w).alloc (.cells #[.int .i64 k, .int .i64 c, .int .i64 v, .bool b] 32)
  have UB := Lib.hid ((fun N c up s F w h hk hN => dwbit_any a N c up s F w h hk hN) N c b s F _ (h.ext A) hk (by omega))
  have UF := Lib.hid ((fun N up s F w h hk hN => dwflat_any a N up s F w h hk hN) N b s F _ (h.ext A) hk (by omega))
  have UK := Lib.hid (dwkind_any a N  v s F _ (h.ext A) hk hN)
  have UM := Lib.hid (dwmode_any a N  v s F _ (h.ext A) hk hN)
  have UP := Lib.hid (dwpart_any a N  v s F _ (h.ext A) hk hN)
  have HA := Lib.hid (Step.of_ext (F := F) A)
  by_cases h0 : k = 0
  · have t0 : (k == 0) = true := by rw [beq_iff_eq]; exact h0
    have HR : Hid (askM mX s ⟨k, c, v, b⟩ = (flg (bitM mX s c b).1, (bitM mX s c b).2)) := if_pos h0
    rw [HR.out]
    obtain ⟨⟨V, s1⟩, e1⟩ : ∃ r, bitM mX s c b = r := ⟨_, rfl⟩
    rw [e1] at UB ⊢
    have UG := Lib.hid (mflag_any V)
    clear h hk e1 h0 A
    go_enter Try.func11, Try.ntmps11
    go_wp2_with fail
    refine (UB.out).mono ?_; rintro e w1 ⟨rfl, F1, h1, g1⟩
    have H1 := Lib.hid h1
    have G1 := Lib.hid (HA.out.trans g1)
    clear h1 g1
    go_wp2_with fail
    refine (UG.out _).mono ?_; rintro e w2 ⟨rfl, rfl⟩
    go_wp2
    go_ret
    exact ⟨rfl, F1, H1.out, G1.out⟩
  have t0 : (k == 0) = false := by rw [beq_eq_false_iff_ne]; exact h0
  by_cases h1 : k = 1
  · have t1 : (k == 1) = true := by rw [beq_iff_eq]; exact h1
    have HR : Hid (askM mX s ⟨k, c, v, b⟩ = (flg (flaM mX s b).1, (flaM mX s b).2)) := (if_neg h0).trans (if_pos h1)
    rw [HR.out]
    obtain ⟨⟨V, s1⟩, e1⟩ : ∃ r, flaM mX s b = r := ⟨_, rfl⟩
    rw [e1] at UF ⊢
    have UG := Lib.hid (mflag_any V)
    clear h hk e1 h0 h1 A
    go_enter Try.func11, Try.ntmps11
    go_wp2_with fail
    refine (UF.out).mono ?_; rintro e w1 ⟨rfl, F1, h1, g1⟩
    have H1 := Lib.hid h1
    have G1 := Lib.hid (HA.out.trans g1)
    clear h1 g1
    go_wp2_with fail
    refine (UG.out _).mono ?_; rintro e w2 ⟨rfl, rfl⟩
    go_wp2
    go_ret
    exact ⟨rfl, F1, H1.out, G1.out⟩
  have t1 : (k == 1) = false := by rw [beq_eq_false_iff_ne]; exact h1
  by_cases h2 : k = 2
  · have t2 : (k == 2) = true := by rw [beq_iff_eq]; exact h2
    have HR : Hid (askM mX s ⟨k, c, v, b⟩ = (((kindM mX s v).1 : Int), (kindM mX s v).2)) := (if_neg h0).trans ((if_neg h1).trans (if_pos h2))
    rw [HR.out]
    obtain ⟨⟨V, s1⟩, e1⟩ : ∃ r, kindM mX s v = r := ⟨_, rfl⟩
    rw [e1] at UK ⊢
    clear h hk e1 h0 h1 h2 A
    go_enter Try.func11, Try.ntmps11
    go_wp2_with fail
    refine (UK.out).mono ?_; rintro e w1 ⟨rfl, F1, h1, g1⟩
    have H1 := Lib.hid h1
    have G1 := Lib.hid (HA.out.trans g1)
    clear h1 g1
    go_wp2
    go_ret
    exact ⟨rfl, F1, H1.out, G1.out⟩
  have t2 : (k == 2) = false := by rw [beq_eq_false_iff_ne]; exact h2
  by_cases h3 : k = 3
  · have t3 : (k == 3) = true := by rw [beq_iff_eq]; exact h3
    have HR : Hid (askM mX s ⟨k, c, v, b⟩ = (((modeM mX s (cl3 v)).1 : Int), (modeM mX s (cl3 v)).2)) := (if_neg h0).trans ((if_neg h1).trans ((if_neg h2).trans (if_pos h3)))
    rw [HR.out]
    obtain ⟨⟨V, s1⟩, e1⟩ : ∃ r, modeM mX s (cl3 v) = r := ⟨_, rfl⟩
    rw [e1] at UM ⊢
    clear h hk e1 h0 h1 h2 h3 A
    go_enter Try.func11, Try.ntmps11
    go_wp2_with fail
    refine (UM.out).mono ?_; rintro e w1 ⟨rfl, F1, h1, g1⟩
    have H1 := Lib.hid h1
    have G1 := Lib.hid (HA.out.trans g1)
    clear h1 g1
    go_wp2
    go_ret
    exact ⟨rfl, F1, H1.out, G1.out⟩
  have t3 : (k == 3) = false := by rw [beq_eq_false_iff_ne]; exact h3
  have HR : Hid (askM mX s ⟨k, c, v, b⟩ = partM mX s (cl15 v)) := (if_neg h0).trans ((if_neg h1).trans ((if_neg h2).trans (if_neg h3)))
  rw [HR.out]
  obtain ⟨⟨V, s1⟩, e1⟩ : ∃ r, partM mX s (cl15 v) = r := ⟨_, rfl⟩
  rw [e1] at UP ⊢
  clear h hk e1 h0 h1 h2 h3 A
  go_enter Try.func11, Try.ntmps11
  go_wp2_with fail
  refine (UP.out).mono ?_; rintro e w1 ⟨rfl, F1, h1, g1⟩
  have H1 := Lib.hid h1
  have G1 := Lib.hid (HA.out.trans g1)
  clear h1 g1
  go_wp2
  go_ret
  exact ⟨rfl, F1, H1.out, G1.out⟩
end Go.Proofs.Ytkfdhnmlebnfkaa

/- kinref13.Coder as a reader: an object and the blocks that it lies in: contracts over this seat's translation. -/
namespace Go.Proofs.Ytkfdhnmlebnfkaa
set_option linter.unusedVariables false
set_option linter.unusedSimpArgs false
open Go.RowKit Go.Extern.Stop Go.Stop Go.Extern

theorem XcAt.same {F : Nat → Prop} {w w' : World} {b : Nat} {bs : List Nat} {s : Xc} (h : XcAt F w b bs s) (kb : w'.heap[b]? = w.heap[b]?) (kg : ∀ g, ¬ F g → w'.heap[g]? = w.heap[g]?) : XcAt F w' b bs s := by
  obtain ⟨a, cap, h1, h3, h4⟩ := h
  refine ⟨a, cap, h1.same kb, ⟨?_, h3.2⟩, h4⟩
  obtain ⟨a', cap', e, e1, e2, e3, e4⟩ := h3.1
  refine ⟨a', cap', e, e1, e2, e3, fun g off ha j u hu => ?_⟩
  have c := e4 g off ha j u hu
  simp only [Value.slice.injEq] at e
  obtain ⟨rfl, -, -⟩ := e
  exact (World.cell?_of_block (a := ⟨g, off + j, none⟩) (kg g (h4 g off ha).2)).trans c
/-- a reader of the document's and its blocks -/
def DrF (a d : Nat) (bs : List Nat) (w : World) (F : Nat → Prop) (s : Ms Xc) : Prop := ∃ E, XcAt E w d bs s.co ∧ ChAt w a 3 s.ch ∧ (w.cell? ⟨a, 0, none⟩ = some (.bool true) ∧ w.cell? ⟨a, 2, none⟩ = some (.pointer (some ⟨d, 0, none⟩))) ∧ (d ≠ a ∧ E a) ∧ (F a ∧ F d) ∧ (∀ k, ¬ E k → F k) ∧ ∀ k, F k → k < w.heap.size
theorem DrF.lt {a d : Nat} {bs : List Nat} {w : World} {F : Nat → Prop} {s : Ms Xc} (h : DrF a d bs w F s) : ∀ k, F k → k < w.heap.size := by
  obtain ⟨E, h1, h2, h3, h4, h5, h6, h7⟩ := h
  exact h7
theorem DrF.same {a d : Nat} {bs : List Nat} {w w' : World} {F : Nat → Prop} {s : Ms Xc} (h : DrF a d bs w F s) (k : ∀ i, F i → w'.heap[i]? = w.heap[i]?) : DrF a d bs w' F s := by
  obtain ⟨E, h1, h2, h3, h4, h5, h6, h7⟩ := h
  have ka := k a h5.1
  refine ⟨E, h1.same (k d h5.2) (fun g hg => k g (h6 g hg)), h2.same ka, ⟨(World.cell?_of_block (a := ⟨a, 0, none⟩) ka).trans h3.1, (World.cell?_of_block (a := ⟨a, 2, none⟩) ka).trans h3.2⟩, h4, h5, h6, fun i hi => ?_⟩
  have e := k i hi
  rw [Array.getElem?_eq_getElem (h7 i hi)] at e
  exact (Array.getElem?_eq_some_iff.1 e).1
theorem DrF.ext {a d : Nat} {bs : List Nat} {w w' : World} {F : Nat → Prop} {s : Ms Xc} (h : DrF a d bs w F s) (k : Ext w w') : DrF a d bs w' F s := h.same (fun i hi => k.block (h.lt i hi))
theorem DrF.ch {a d : Nat} {bs : List Nat} {w : World} {F : Nat → Prop} {s : Ms Xc} (h : DrF a d bs w F s) : ChAt w a 3 s.ch := by obtain ⟨_, _, h, _⟩ := h; exact h
theorem DrF.inner {a d : Nat} {bs : List Nat} {w w' : World} {F E : Nat → Prop} {s : Ms Xc} {t : Xc} (h2 : ChAt w a 3 s.ch) (h3 : w.cell? ⟨a, 0, none⟩ = some (.bool true) ∧ w.cell? ⟨a, 2, none⟩ = some (.pointer (some ⟨d, 0, none⟩))) (h4 : d ≠ a ∧ E a) (h5 : F a ∧ F d) (h6 : ∀ k, ¬ E k → F k) (h7 : ∀ k, F k → k < w.heap.size) (k1 : XcAt E w' d bs t) (k2 : Kp d w w') :
    DrF a d bs w' F ⟨s.ch, t⟩ ∧ Step F w F w' := by
  have e := k2.block h2.lt (fun e => h4.1 e.symm)
  exact ⟨⟨E, k1, h2.same e, ⟨(World.cell?_of_block (a := ⟨a, 0, none⟩) e).trans h3.1, (World.cell?_of_block (a := ⟨a, 2, none⟩) e).trans h3.2⟩, h4, h5, h6, fun k hk => Nat.lt_of_lt_of_le (h7 k hk) k2.size⟩, Step.of_kp k2 h5.2⟩
theorem DrF.learn {a c p d : Nat} {bs : List Nat} {w : World} {F : Nat → Prop} {s : Ms Xc} (h : DrF a d bs w F s) (hc : c < 64) : DrF a d bs (w.setCell ⟨a, 3 + c, none⟩ (.int .i64 (p : Int))) F ⟨setM s.ch c p, s.co⟩ ∧ Step F w F (w.setCell ⟨a, 3 + c, none⟩ (.int .i64 (p : Int))) := by
  obtain ⟨E, h1, h2, h3, h4, h5, h6, h7⟩ := h
  exact ⟨⟨E, h1.kp ((Kp.refl a w).set (3 + c) _) h4.2 h4.1, h2.set hc p, ⟨(cell_off_ne _ (by omega)).trans h3.1, (cell_off_ne _ (by omega)).trans h3.2⟩, h4, h5, h6, by simpa using h7⟩, Step.of_kp ((Kp.refl a w).set (3 + c) _) h5.1⟩
set_option maxRecDepth 20000 in
theorem drflat_any (a N d : Nat) (bs : List Nat) (up : Bool) (s : Ms Xc) (F : Nat → Prop) (w : World) (h : DrF a d bs w F s) (hk : okS okYm N s) (hN : N ≤ 900000) : Calls Try.prog 28 #[.pointer (some ⟨a, 0, none⟩), .bool up] w (FPost (DrF a d bs) F w (.bool (flaM (mY bs) s up).1) (flaM (mY bs) s up).2) := by
  obtain ⟨E, h1, h2, h3, h4, h5, h6, h7⟩ := h
  have UF := Lib.hid (xflat_any E d N bs s.co w h1 hk.2.1 hN hk.2.2)
  have HI := Lib.hid (fun w' t (k1 : XcAt E w' d bs t) (k2 : Kp d w w') => DrF.inner (s := s) h2 h3 h4 h5 h6 h7 k1 k2)
  obtain ⟨c0, c1⟩ := h3
  show Calls Try.prog 28 _ w (FPost (DrF a d bs) F w (.bool (decide (s.co.rr / 2 ≤ s.co.dd))) ⟨s.ch, parX bs s.co (s.co.rr / 2)⟩)
  obtain ⟨V, hV⟩ : ∃ V, decide (s.co.rr / 2 ≤ s.co.dd) = V := ⟨_, rfl⟩
  rw [hV] at UF ⊢
  clear h1 h2 h4 h5 h6 h7 hk hV
  go_enter Try.func28, Try.ntmps28
  go_wp2_with fail
  refine (UF.out).mono ?_; rintro e w7 ⟨rfl, k1, k2⟩
  have HZ := Lib.hid (HI.out _ _ k1 k2)
  clear k1 k2
  go_wp2
  go_ret
  exact ⟨rfl, _, HZ.out⟩
set_option maxRecDepth 20000 in
set_option maxHeartbeats 4000000 in
theorem drbit_any (a N d : Nat) (bs : List Nat) (c : Int) (up : Bool) (s : Ms Xc) (F : Nat → Prop) (w : World) (h : DrF a d bs w F s) (hk : okS okYm N s) (hN : N ≤ 900000) : Calls Try.prog 27 #[.pointer (some ⟨a, 0, none⟩), .int .i64 c, .bool up] w (FPost (DrF a d bs) F w (.bool (bitM (mY bs) s c up).1) (bitM (mY bs) s c up).2) := by
  cases hc : ctxM c
  · have hb : bitM (mY bs) s c up = flaM (mY bs) s up := by unfold bitM; rw [hc]; rfl
    rw [hb]
    have UF := Lib.hid (drflat_any a N d bs up s F w h hk hN)
    have hcc := ctx_of hc
    clear h hk hb hc
    rcases hcc with x1 | ⟨x1, x2⟩
    all_goals (
      go_enter Try.func27, Try.ntmps27
      go_wp2_with fail
      refine (UF.out).mono ?_; rintro e w7 ⟨rfl, k⟩
      have HZ := Lib.hid k
      clear k
      go_wp2
      go_ret
      exact ⟨rfl, HZ.out⟩)
  · have hc' : (decide (0 ≤ c) && decide (c < 64)) = true := hc
    rw [Bool.and_eq_true, decide_eq_true_iff, decide_eq_true_iff] at hc'
    obtain ⟨n, rfl⟩ : ∃ n : Nat, c = (n : Int) := ⟨c.toNat, by omega⟩
    have hn : n < 64 := by omega
    obtain ⟨E, h1, h2, h3, h4, h5, h6, h7⟩ := h
    obtain ⟨p, hp⟩ : ∃ p, s.ch n = p := ⟨_, rfl⟩
    obtain ⟨p1, p2⟩ := hk.1 n
    rw [hp] at p1 p2
    obtain ⟨V, hV⟩ : ∃ V, xcU s.co (p : Int) = V := ⟨_, rfl⟩
    have hbm : bitM (mY bs) s (n : Int) up = (V, ⟨setM s.ch n (lrnM p V), xcD bs s.co (p : Int)⟩) := by
      unfold bitM
      rw [hc, if_pos rfl, Int.toNat_natCast, hp, ← hV]
      rfl
    rw [hbm]
    have c0 := (h2 n hn).1
    rw [hp] at c0
    have UC := Lib.hid (xcode_any E d N (p : Int) bs s.co w h1 hk.2.1 hN hk.2.2 (fun g hg => Classical.byContradiction fun he => by have := h7 g (h6 g he); omega))
    rw [hV] at UC
    have HI := Lib.hid (fun w' t (k1 : XcAt E w' d bs t) (k2 : Kp d w w') => DrF.inner (s := s) h2 h3 h4 h5 h6 h7 k1 k2)
    have HP := Lib.hid hp
    obtain ⟨c1, c2⟩ := h3
    have x1 : (0 : Int) ≤ (n : Int) := by omega
    have x2 : (n : Int) < 64 := by omega
    have x3 : ¬ (n : Int) < 0 := by omega
    have x4 : ¬ 63 < (n : Int) := by omega
    clear h1 h2 h4 h5 h6 h7 hk hbm hc' hp hc hV
    cases V
    · obtain ⟨q, hq⟩ : ∃ q, (2048 - p) / 32 = q := ⟨_, rfl⟩
      obtain ⟨z, hz⟩ : ∃ z, 2048 - p = z := ⟨_, rfl⟩
      have s1 : IntKind.i64.wrap (2048 - (p : Int)) = (z : Int) := by rw [IntKind.wrap_i64]; omega
      have s2 : Int.tdiv (z : Int) 32 = (q : Int) := by rw [← hq, ← hz, show (32 : Int) = ((32 : Nat) : Int) from rfl, Int.ofNat_tdiv]
      have s3 : IntKind.i64.wrap (q : Int) = (q : Int) := by rw [IntKind.wrap_i64]; omega
      have s4 : IntKind.i64.wrap ((p : Int) + (q : Int)) = ((p + q : Nat) : Int) := by rw [IntKind.wrap_i64]; omega
      have hl : lrnM p false = p + q := by rw [← hq]; rfl
      rw [hl]
      clear hq hz hl p1 p2
      go_enter Try.func27, Try.ntmps27
      go_wp2_with fail
      refine (UC.out).mono ?_; rintro e w5 ⟨ce, xe, rfl, -, k1, k2⟩
      have HZ := Lib.hid (HI.out _ _ k1 k2)
      have HL := Lib.hid (HZ.out.1.learn (c := n) (p := p + q) hn)
      obtain ⟨d0, f0⟩ := HZ.out.1.ch n hn
      have d0 : w5.cell? ⟨a, 3 + n, none⟩ = some (.int .i64 (s.ch n : Int)) := d0
      clear k1 k2
      go_wp2
      go_ret
      exact ⟨rfl, _, HL.out.1, HZ.out.2.trans HL.out.2⟩
    · obtain ⟨q, hq⟩ : ∃ q, p / 32 = q := ⟨_, rfl⟩
      have s2 : Int.tdiv (p : Int) 32 = (q : Int) := by rw [← hq, show (32 : Int) = ((32 : Nat) : Int) from rfl, Int.ofNat_tdiv]
      have s3 : IntKind.i64.wrap (q : Int) = (q : Int) := by rw [IntKind.wrap_i64]; omega
      have s4 : IntKind.i64.wrap ((p : Int) - (q : Int)) = ((p - q : Nat) : Int) := by rw [IntKind.wrap_i64]; omega
      have hl : lrnM p true = p - q := by rw [← hq]; rfl
      rw [hl]
      clear hq hl p1 p2
      go_enter Try.func27, Try.ntmps27
      go_wp2_with fail
      refine (UC.out).mono ?_; rintro e w5 ⟨ce, xe, rfl, -, k1, k2⟩
      have HZ := Lib.hid (HI.out _ _ k1 k2)
      have HL := Lib.hid (HZ.out.1.learn (c := n) (p := p - q) hn)
      obtain ⟨d0, f0⟩ := HZ.out.1.ch n hn
      have d0 : w5.cell? ⟨a, 3 + n, none⟩ = some (.int .i64 (s.ch n : Int)) := d0
      clear k1 k2
      go_wp2
      go_ret
      exact ⟨rfl, _, HL.out.1, HZ.out.2.trans HL.out.2⟩
theorem nrmX_wide {bs : List Nat} : ∀ (f : Nat) {s : Xc}, 16777216 ≤ s.rr * 256 ^ f → 16777216 ≤ (nrmX bs f s).rr
  | 0, s, h => by have h : 16777216 ≤ s.rr := by simpa using h
                  exact h
  | f + 1, s, h => by
    show 16777216 ≤ (if s.rr < 16777216 then nrmX bs f (stpX bs s) else s).rr
    split
    · exact nrmX_wide f (s := stpX bs s) (by show 16777216 ≤ s.rr * 256 * 256 ^ f; rw [Nat.mul_assoc, ← Nat.pow_succ']; exact h)
    · omega
theorem parX_wide {bs : List Nat} {s : Xc} {w : Nat} (h1 : 1 ≤ w) (h2 : w < s.rr) : 16777216 ≤ (parX bs s w).rr := by
  refine nrmX_wide 3 ?_
  unfold midX
  split
  · show 16777216 ≤ (s.rr - w) * 16777216
    omega
  · show 16777216 ≤ w * 16777216
    omega
theorem mkY {bs : List Nat} : Mk (mY bs) okYm := ⟨fun p b p1 p2 h => by
    refine ⟨(xcD_ok h.1 h.2).mono (by omega), ?_⟩
    show 16777216 ≤ (xcD bs _ (p : Int)).rr
    unfold xcD
    rw [chance_ok p1 p2, if_pos rfl, Int.toNat_natCast]
    exact parX_wide (part_of h.2 (by omega) (by omega)).1 (part_of h.2 (by omega) (by omega)).2, fun b h => ⟨(parX_ok h.1 (by have := h.2; omega)).mono (by omega), parX_wide (by have := h.2; omega) (by have := h.2; omega)⟩, fun h k => ⟨h.1.mono k, h.2⟩⟩
set_option maxRecDepth 20000 in
set_option maxHeartbeats 4000000 in
theorem fresh_any (a : Nat) (f : Nat → Nat) (w : World) (h : ChAt w a 3 f) : Calls Try.prog 25 #[.pointer (some ⟨a, 0, none⟩)] w fun e w' => e = .returned (.pointer (some ⟨a, 0, none⟩)) ∧ ChAt w' a 3 ch0 ∧ Kp a w w' ∧ ∀ i, i < 3 → w'.cell? ⟨a, i, none⟩ = w.cell? ⟨a, i, none⟩ := by
  have H0 : Hid (ChAt w a 3 (fun i => if i < 0 then 1024 else f i)) := fun i hi => h i hi
  clear h
  go_enter Try.func25, Try.ntmps25
  go_wp2_with fail
  go_loopw [3] (fun iv wr => ∃ k : Nat, k ≤ 64 ∧ iv = .int .i64 (k : Int) ∧ Hid (ChAt wr a 3 (fun i => if i < k then 1024 else f i)) ∧ Hid (Kp a w wr ∧ ∀ i, i < 3 → wr.cell? ⟨a, i, none⟩ = w.cell? ⟨a, i, none⟩)) (fun iv _ => 64 - (intOf iv).toNat)
  case atStart => exact ⟨0, Nat.zero_le _, rfl, H0.out, Kp.refl a w, fun _ _ => rfl⟩
  case round =>
    clear H0
    obtain ⟨k, hk, rfl, HD, HS⟩ := hrel
    by_cases hlt : k < 64
    · have x1 : (0 : Int) ≤ (k : Int) := by omega
      have x2 : (k : Int) < 64 := by omega
      have HD2 : Hid (ChAt (wr.setCell ⟨a, 3 + k, none⟩ (.int .i64 1024)) a 3 (fun i => if i < k + 1 then 1024 else f i)) := fun i hi => by
        have := (HD.out.set hlt 1024) i hi
        refine ⟨this.1.trans ?_, this.2⟩
        show some (Value.int .i64 ((if i = k then 1024 else if i < k then 1024 else f i : Nat) : Int)) = some (Value.int .i64 ((if i < k + 1 then 1024 else f i : Nat) : Int))
        by_cases e1 : i = k
        · rw [if_pos e1, if_pos (by omega)]
        · by_cases e2 : i < k
          · rw [if_neg e1, if_pos e2, if_pos (by omega)]
          · rw [if_neg e1, if_neg e2, if_neg (by omega)]
      have HS2 : Hid (Kp a w (wr.setCell ⟨a, 3 + k, none⟩ (.int .i64 1024)) ∧ ∀ i, i < 3 → (wr.setCell ⟨a, 3 + k, none⟩ (.int .i64 1024)).cell? ⟨a, i, none⟩ = w.cell? ⟨a, i, none⟩) := ⟨HS.out.1.set _ _, fun i hi => (cell_off_ne _ (by omega)).trans (HS.out.2 i hi)⟩
      obtain ⟨c0, f0⟩ := HD.out k hlt
      clear HD HS
      go_wp2
      go_roundw
      case rel => exact ⟨k + 1, by omega, by go_num, HD2.out, HS2.out⟩
      case measure => simp [intOf]; omega
    · obtain rfl : k = 64 := by omega
      have x2 : ¬ ((64 : Nat) : Int) < 64 := by omega
      have HD2 : Hid (ChAt wr a 3 ch0) := fun i hi => by
        have := HD.out i hi
        refine ⟨this.1.trans ?_, this.2⟩
        show some (Value.int .i64 ((if i < 64 then 1024 else f i : Nat) : Int)) = some (Value.int .i64 ((1024 : Nat) : Int))
        rw [if_pos hi]
      clear HD
      go_wp2
      go_ret
      exact ⟨rfl, HD2.out, HS.out⟩
def NdrPost (w : World) (bs : List Nat) (e : Ending) (w' : World) : Prop := ∃ a d F, e = .returned (.pointer (some ⟨a, 0, none⟩)) ∧ (∀ k, F k → w.heap.size ≤ k) ∧ DrF a d bs w' F ⟨ch0, nxN bs 4⟩ ∧ Ext w w'
set_option maxRecDepth 20000 in
theorem drnew_any (bs : List Nat) (v : Value) (w : World) (hv : Bys w v bs) : Calls Try.prog 9 #[v] w (NdrPost w bs) := by
  have HV := Lib.hid hv
  clear hv
  have hz := (zero_of_info (P := Try.prog) (t := 39) (v := .agg ([Value.bool false, .pointer none, .pointer none] ++ mzt).toArray) (n := 67) (by kernel_rfl)).1
  go_enter Try.func9, Try.ntmps9
  go_wp2_with fail
  refine (newxc_any bs v w HV.out).mono ?_; rintro e w2 ⟨d, rfl, hd, hD, hx2⟩
  have hd2 : d < w2.heap.size := by obtain ⟨_, _, h, _⟩ := hD; exact h.lt
  have hw1 : w.heap.size ≤ w2.heap.size := hx2.size
  have HE := Lib.hid hx2
  have HDD := Lib.hid hD
  clear hx2 hD
  go_wp2_with fail
  change Calls Try.prog _ _ (w2.alloc (.cells ([Value.bool true, .pointer none, .pointer (some ⟨d, 0, none⟩)] ++ mzt).toArray 39)) _
  have hh := heap_alloc_last w2 (.cells ([Value.bool true, .pointer none, .pointer (some ⟨d, 0, none⟩)] ++ mzt).toArray 39)
  have A := (Ext.refl w2).alloc (.cells ([Value.bool true, .pointer none, .pointer (some ⟨d, 0, none⟩)] ++ mzt).toArray 39)
  have hc : ChAt (w2.alloc (.cells ([Value.bool true, .pointer none, .pointer (some ⟨d, 0, none⟩)] ++ mzt).toArray 39)) w2.heap.size 3 (fun _ => 0) := fun i hi => by
    refine ⟨?_, fro_of hh⟩
    rw [cell_of_row _ _ _ _ _ _ hh, List.getElem?_toArray, List.getElem?_append_right (by simp)]
    rw [show 3 + i - [Value.bool true, .pointer none, .pointer (some ⟨d, 0, none⟩)].length = i by simp]
    exact rep_get 64 i _ hi
  have hc0 : (w2.alloc (.cells ([Value.bool true, .pointer none, .pointer (some ⟨d, 0, none⟩)] ++ mzt).toArray 39)).cell? ⟨w2.heap.size, 0, none⟩ = some (.bool true) := by rw [cell_of_row _ _ _ _ _ _ hh]; rfl
  have hc2 : (w2.alloc (.cells ([Value.bool true, .pointer none, .pointer (some ⟨d, 0, none⟩)] ++ mzt).toArray 39)).cell? ⟨w2.heap.size, 2, none⟩ = some (.pointer (some ⟨d, 0, none⟩)) := by rw [cell_of_row _ _ _ _ _ _ hh]; rfl
  have UF := Lib.hid (fresh_any _ _ _ hc)
  have HDA := Lib.hid (HDD.out.ext A)
  have HEA := Lib.hid (HE.out.trans A)
  have H02 := Lib.hid (And.intro hc0 hc2)
  clear hc hh hc0 hc2 HDD HE A
  refine (UF.out).mono ?_; rintro e w5 ⟨rfl, h1, h2, h3⟩
  have hs := h2.size
  have hs : w2.heap.size + 1 ≤ w5.heap.size := by simpa using hs
  have HC := Lib.hid h1
  have HK := Lib.hid (HDA.out.kp h2 (.inr (Nat.le_refl _)) (by omega))
  have H3 := Lib.hid h3
  have HE5 := Lib.hid (Kp.out HEA.out h2 (by omega))
  clear h1 h2 h3
  go_wp2
  go_ret
  refine ⟨w2.heap.size, d, fun k => w.heap.size ≤ k ∧ k < w2.heap.size + 1, rfl, fun k h => h.1, ⟨_, HK.out, HC.out, ⟨(H3.out 0 (by omega)).trans H02.out.1, (H3.out 2 (by omega)).trans H02.out.2⟩, ⟨by omega, .inr (Nat.le_refl _)⟩, ⟨⟨by omega, by omega⟩, by omega, by omega⟩, fun k hk => ?_, fun k hk => by omega⟩, HE5.out⟩
  rw [not_or] at hk
  omega
end Go.Proofs.Ytkfdhnmlebnfkaa

/- kinref13: Kind, Mode, Part, and kinlaw13.wants with a reader: contracts over this seat's translation. -/
namespace Go.Proofs.Ytkfdhnmlebnfkaa
set_option linter.unusedVariables false
set_option linter.unusedSimpArgs false
open Go.RowKit Go.Extern.Stop Go.Stop Go.Extern

set_option maxRecDepth 20000 in
set_option maxHeartbeats 4000000 in
theorem drkind_any (a N : Nat) (d : Nat) (bs : List Nat) (k : Int) (s : Ms Xc) (F : Nat → Prop) (w : World) (h : (DrF a d bs) w F s) (hk : okS okYm N s) (hN : N ≤ 899000) : Calls Try.prog 29 #[.pointer (some ⟨a, 0, none⟩), .int .i64 k] w (FPost (DrF a d bs) F w (.int .i64 ((kindM (mY bs) s k).1 : Int)) (kindM (mY bs) s k).2) := by
  have UB := Lib.hid ((fun N c up s F w h hk hN => drbit_any a N d bs c up s F w h hk hN))
  rw [kind_L]
  have H0 := Lib.hid h
  have HK0 := Lib.hid hk
  clear h hk
  go_enter Try.func29, Try.ntmps29
  go_wp2_with fail
  go_loopw [5] (fun iv wr => ∃ (n : Nat) (t : Ms Xc) (G : Nat → Prop), n ≤ 3 ∧ iv = .int .i64 (n : Int) ∧ Hid (kinL (mY bs) k 3 0 s = kinL (mY bs) k (3 - n) n t) ∧ Hid (okS okYm (N + 4 * n) t) ∧ Hid ((DrF a d bs) wr G t) ∧ Hid (Step F w G wr)) (fun iv _ => 3 - (intOf iv).toNat)
  case atStart => exact ⟨0, s, F, Nat.zero_le _, rfl, rfl, HK0.out, H0.out, Step.refl F w⟩
  case round =>
    clear H0 HK0
    obtain ⟨n, t, G, hn, rfl, HS, HK, HO, HG⟩ := hrel
    by_cases hlt : n < 3
    · obtain ⟨f, hf⟩ : ∃ f, 3 - n = f + 1 := ⟨2 - n, by omega⟩
      have hs := HS.out
      rw [hf] at hs
      obtain ⟨bz, hbz⟩ : ∃ b, decide ((n : Int) < k) = b := ⟨_, rfl⟩
      obtain ⟨⟨V2, t1⟩, e2⟩ : ∃ r, bitM (mY bs) t (n : Int) (decide ((n : Int) < k)) = r := ⟨_, rfl⟩
      have HY : Hid (V2 = true → kinL (mY bs) k 3 0 s = kinL (mY bs) k (3 - (n + 1)) (n + 1) t1) := fun e => by
        subst e
        rw [hs, kin_yes e2, show 3 - (n + 1) = f by omega]
      have HN : Hid (V2 = false → kinL (mY bs) k 3 0 s = (n, t1)) := fun e => by
        subst e
        rw [hs, kin_no e2]
      have k3 := bit_ok (mkY (bs := bs)) (n : Int) (decide ((n : Int) < k)) HK.out
      rw [e2] at k3
      have HK3 : Hid (okS okYm (N + 4 * (n + 1)) t1) := k3
      have U2 := Lib.hid (UB.out (N + 4 * n) (n : Int) (decide ((n : Int) < k)) t G wr HO.out HK.out (by omega))
      rw [e2, hbz] at U2
      have x1 : (n : Int) < 3 := by omega
      have d3 := hbz
      clear hs hf hbz e2 k3 HS HK HO
      go_wp2_with fail
      refine (U2.out).mono ?_; rintro e w3 ⟨rfl, G3, h3, g3⟩
      have H3 := Lib.hid h3
      have G3' := Lib.hid (HG.out.trans g3)
      clear h3 g3 HG
      cases V2
      · have HRR := Lib.hid (HN.out rfl)
        clear HN HY U2 UB
        go_wp2
        go_ret
        exact ⟨by rw [HRR.out]; rfl, G3, by rw [HRR.out]; exact H3.out, G3'.out⟩
      · have HS3 := Lib.hid (HY.out rfl)
        clear HN HY U2
        go_wp2
        go_roundw
        case rel => exact ⟨n + 1, t1, G3, by omega, by go_num, HS3.out, HK3.out, H3.out, G3'.out⟩
        case measure => simp [intOf]; omega
    · obtain rfl : n = 3 := by omega
      have x1 : ¬ ((3 : Nat) : Int) < 3 := by omega
      have HRR : Hid (kinL (mY bs) k 3 0 s = (3, t)) := HS.out
      clear HS HK UB
      go_wp2
      go_ret
      exact ⟨by rw [HRR.out]; rfl, G, by rw [HRR.out]; exact HO.out, HG.out⟩
set_option maxRecDepth 20000 in
set_option maxHeartbeats 4000000 in
theorem drmode_any (a N : Nat) (d : Nat) (bs : List Nat) (k : Int) (s : Ms Xc) (F : Nat → Prop) (w : World) (h : (DrF a d bs) w F s) (hk : okS okYm N s) (hN : N ≤ 899000) : Calls Try.prog 30 #[.pointer (some ⟨a, 0, none⟩), .int .i64 k] w (FPost (DrF a d bs) F w (.int .i64 ((modeM (mY bs) s (cl3 k)).1 : Int)) (modeM (mY bs) s (cl3 k)).2) := by
  have UB := Lib.hid ((fun N c up s F w h hk hN => drbit_any a N d bs c up s F w h hk hN))
  obtain ⟨m, hm⟩ : ∃ m, cl3 k = m := ⟨_, rfl⟩
  have hmk : min (max k 0) 3 = (m : Int) := by rw [← hm]; unfold cl3; omega
  rw [hm]
  have hm4 : m ≤ 3 := by omega
  obtain ⟨r, hr⟩ : ∃ r, m % 2 = r := ⟨_, rfl⟩
  have s1 : Int.tmod (m : Int) 2 = (r : Int) := by rw [← hr, show (2 : Int) = ((2 : Nat) : Int) from rfl, Int.ofNat_tmod]
  obtain ⟨b1, hb1⟩ : ∃ b, decide (1 < m) = b := ⟨_, rfl⟩
  obtain ⟨b2, hb2⟩ : ∃ b, decide (m % 2 = 1) = b := ⟨_, rfl⟩
  have d1 : decide (1 < (m : Int)) = b1 := by rw [← hb1]; exact decide_eq_decide.2 (by omega)
  have d2 : ((r : Int) == 1) = b2 := by
    rw [← hb2]
    by_cases e : m % 2 = 1
    · rw [decide_eq_true e, beq_iff_eq]; omega
    · rw [decide_eq_false e, beq_eq_false_iff_ne]; omega
  obtain ⟨⟨V0, t1⟩, e0⟩ : ∃ r, bitM (mY bs) s 3 b1 = r := ⟨_, rfl⟩
  obtain ⟨⟨V1, t2⟩, e1⟩ : ∃ r, bitM (mY bs) t1 5 b2 = r := ⟨_, rfl⟩
  obtain ⟨⟨V2, t3⟩, e2⟩ : ∃ r, bitM (mY bs) t1 4 b2 = r := ⟨_, rfl⟩
  have k1 := bit_ok (mkY (bs := bs)) 3 b1 hk
  rw [e0] at k1
  have HR : Hid (modeM (mY bs) s m = if V0 then (if V1 then 3 else 2, t2) else (if V2 then 1 else 0, t3)) := by
    show _ = _
    unfold modeM
    rw [hb1, hb2, e0]
    show (if V0 = true then (if (bitM (mY bs) t1 5 b2).1 = true then 3 else 2, (bitM (mY bs) t1 5 b2).2) else (if (bitM (mY bs) t1 4 b2).1 = true then 1 else 0, (bitM (mY bs) t1 4 b2).2)) = _
    rw [e1, e2]
  have U0 := Lib.hid (UB.out N 3 b1 s F w h hk (by omega))
  have U1 := Lib.hid (fun F w' (h : (DrF a d bs) w' F t1) => UB.out (N + 4) 5 b2 t1 F w' h k1 (by omega))
  have U2 := Lib.hid (fun F w' (h : (DrF a d bs) w' F t1) => UB.out (N + 4) 4 b2 t1 F w' h k1 (by omega))
  rw [e0] at U0
  rw [e1] at U1
  rw [e2] at U2
  clear h hk k1 hb1 hb2 e0 e1 e2 UB hm hr hm4
  go_enter Try.func30, Try.ntmps30
  go_wp2_with fail
  refine (U0.out).mono ?_; rintro e w1 ⟨rfl, F1, h1, g1⟩
  have H1 := Lib.hid h1
  have G1 := Lib.hid g1
  clear h1 g1
  cases V0
  · go_wp2_with fail
    refine (U2.out _ _ H1.out).mono ?_; rintro e w2 ⟨rfl, F2, h2, g2⟩
    have H2 := Lib.hid h2
    have G2 := Lib.hid (G1.out.trans g2)
    clear h2 g2 H1 G1
    cases V2
    all_goals (
      go_wp2
      go_ret
      exact ⟨by rw [HR.out]; rfl, F2, by rw [HR.out]; exact H2.out, G2.out⟩)
  · go_wp2_with fail
    refine (U1.out _ _ H1.out).mono ?_; rintro e w2 ⟨rfl, F2, h2, g2⟩
    have H2 := Lib.hid h2
    have G2 := Lib.hid (G1.out.trans g2)
    clear h2 g2 H1 G1
    cases V1
    all_goals (
      go_wp2
      go_ret
      exact ⟨by rw [HR.out]; rfl, F2, by rw [HR.out]; exact H2.out, G2.out⟩)
set_option maxRecDepth 20000 in
set_option maxHeartbeats 4000000 in
theorem drpart_any (a N : Nat) (d : Nat) (bs : List Nat) (k : Int) (s : Ms Xc) (F : Nat → Prop) (w : World) (h : (DrF a d bs) w F s) (hk : okS okYm N s) (hN : N ≤ 899000) : Calls Try.prog 31 #[.pointer (some ⟨a, 0, none⟩), .int .i64 k] w (FPost (DrF a d bs) F w (.int .i64 (partM (mY bs) s (cl15 k)).1) (partM (mY bs) s (cl15 k)).2) := by
  have UB := Lib.hid ((fun N c up s F w h hk hN => drbit_any a N d bs c up s F w h hk hN))
  have UF := Lib.hid ((fun N up s F w h hk hN => drflat_any a N d bs up s F w h hk hN))
  obtain ⟨v, hv⟩ : ∃ v, cl15 k = v := ⟨_, rfl⟩
  have hvk : min (max k (-15)) 15 = v := by rw [← hv]; unfold cl15; omega
  rw [hv]
  have hv1 : -15 ≤ v := by omega
  have hv2 : v ≤ 15 := by omega
  have q1 : IntKind.i64.wrap (-v) = -v := by rw [IntKind.wrap_i64]; omega
  obtain ⟨z, hz⟩ : ∃ z, (v.natAbs : Int) - 1 = z := ⟨_, rfl⟩
  have hzm : max v (-v) - 1 = z := by rw [← hz]; omega
  have q2 : IntKind.i64.wrap z = z := by rw [IntKind.wrap_i64]; omega
  have q3 : IntKind.i64.wrap (max v (-v) - 1) = z := by rw [hzm]; exact q2
  obtain ⟨b0, hb0⟩ : ∃ b, decide (v ≠ 0) = b := ⟨_, rfl⟩
  obtain ⟨b1, hb1⟩ : ∃ b, decide (v < 0) = b := ⟨_, rfl⟩
  have d0 : (v != 0) = b0 := by
    rw [← hb0]
    by_cases e : v = 0
    · subst e; rfl
    · rw [decide_eq_true e]; exact bne_iff_ne.2 e
  obtain ⟨⟨V0, s1⟩, e0⟩ : ∃ r, bitM (mY bs) s 6 b0 = r := ⟨_, rfl⟩
  obtain ⟨⟨V1, s2⟩, e1⟩ : ∃ r, flaM (mY bs) s1 b1 = r := ⟨_, rfl⟩
  have k1 := bit_ok (mkY (bs := bs)) 6 b0 hk
  rw [e0] at k1
  have k2 := fla_ok (mkY (bs := bs)) b1 k1
  rw [e1] at k2
  have HR := Lib.hid (part_split (M := (mY bs)) (s := s) (v := v) (by rw [hb0, e0]) (by rw [hb1, e1]))
  rw [hz] at HR
  have HK2 := Lib.hid k2
  have U0 := Lib.hid (UB.out N 6 b0 s F w h hk (by omega))
  have U1 := Lib.hid (fun F w' (h : (DrF a d bs) w' F s1) => UF.out (N + 4) b1 s1 F w' h k1 (by omega))
  rw [e0] at U0
  rw [e1] at U1
  clear h hk k1 k2 hb0 e0 e1 UF hv hz hzm q2
  go_enter Try.func31, Try.ntmps31
  go_wp2_with fail
  refine (U0.out).mono ?_; rintro e w1 ⟨rfl, F1, h1, g1⟩
  have H1 := Lib.hid h1
  have G1 := Lib.hid g1
  clear h1 g1
  cases V0
  · go_wp2
    go_ret
    exact ⟨by rw [HR.out]; rfl, F1, by rw [HR.out]; exact H1.out, G1.out⟩
  · go_wp2_with fail
    refine (U1.out _ _ H1.out).mono ?_; rintro e w2 ⟨rfl, F2, h2, g2⟩
    have H2 := Lib.hid h2
    have G2 := Lib.hid (G1.out.trans g2)
    clear h2 g2 H1 G1 U0 U1
    go_wp2_with fail
    go_loopw [7] (fun iv wr => ∃ (n : Nat) (t : Ms Xc) (G : Nat → Prop), n ≤ 14 ∧ iv = .int .i64 (n : Int) ∧ Hid (sizM (mY bs) z 14 0 s2 = sizM (mY bs) z (14 - n) n t) ∧ Hid (okS okYm (N + 4 + 4 + 4 * n) t) ∧ Hid ((DrF a d bs) wr G t) ∧ Hid (Step F w G wr)) (fun iv _ => 14 - (intOf iv).toNat)
    case atStart => exact ⟨0, s2, F2, Nat.zero_le _, rfl, rfl, HK2.out, H2.out, G2.out⟩
    case round =>
      clear H2 G2 HK2
      obtain ⟨n, t, G, hn, rfl, HS, HK, HO, HG⟩ := hrel
      by_cases hlt : n < 14
      · obtain ⟨f, hf⟩ : ∃ f, 14 - n = f + 1 := ⟨13 - n, by omega⟩
        have hs := HS.out
        rw [hf] at hs
        obtain ⟨C, hC⟩ : ∃ C : Nat, 7 + min n 6 = C := ⟨_, rfl⟩
        obtain ⟨bz, hbz⟩ : ∃ b, decide ((n : Int) < z) = b := ⟨_, rfl⟩
        obtain ⟨⟨V2, t1⟩, e2⟩ : ∃ r, bitM (mY bs) t ((7 + min n 6 : Nat) : Int) (decide ((n : Int) < z)) = r := ⟨_, rfl⟩
        have HY : Hid (V2 = true → sizM (mY bs) z 14 0 s2 = sizM (mY bs) z (14 - (n + 1)) (n + 1) t1) := fun e => by
          subst e
          rw [hs, siz_yes e2, show 14 - (n + 1) = f by omega]
        have HN : Hid (V2 = false → sizM (mY bs) z 14 0 s2 = (n, t1)) := fun e => by
          subst e
          rw [hs, siz_no e2]
        have k3 := bit_ok (mkY (bs := bs)) ((7 + min n 6 : Nat) : Int) (decide ((n : Int) < z)) HK.out
        rw [e2] at k3
        have HK3 : Hid (okS okYm (N + 4 + 4 + 4 * (n + 1)) t1) := k3
        have U2 := Lib.hid (UB.out (N + 4 + 4 + 4 * n) ((7 + min n 6 : Nat) : Int) (decide ((n : Int) < z)) t G wr HO.out HK.out (by omega))
        rw [e2, hbz, hC] at U2
        have x1 : (n : Int) < 14 := by omega
        have q4 : IntKind.i64.wrap (7 + min (n : Int) 6) = (C : Int) := by rw [IntKind.wrap_i64]; omega
        have d3 := hbz
        clear hs hf hC hbz e2 k3 HS HK HO
        go_wp2_with fail
        refine (U2.out).mono ?_; rintro e w3 ⟨rfl, G3, h3, g3⟩
        have H3 := Lib.hid h3
        have G3' := Lib.hid (HG.out.trans g3)
        clear h3 g3 HG
        cases V2
        · have HRR := HN.out rfl
          have q5 : IntKind.i64.wrap (-(n : Int)) = -(n : Int) := by rw [IntKind.wrap_i64]; omega
          have q6 : IntKind.i64.wrap (-(n : Int) - 1) = -(n : Int) - 1 := by rw [IntKind.wrap_i64]; omega
          have q7 : IntKind.i64.wrap ((n : Int) + 1) = (n : Int) + 1 := by rw [IntKind.wrap_i64]; omega
          have hr := HR.out
          rw [HRR] at hr
          have HR2 := Lib.hid hr
          clear hr HRR HR HN HY U2 UB
          cases V1
          all_goals (
            go_wp2
            go_ret
            exact ⟨by rw [HR2.out]; rfl, G3, by rw [HR2.out]; exact H3.out, G3'.out⟩)
        · have HS3 := Lib.hid (HY.out rfl)
          clear HN HY U2
          go_wp2
          go_roundw
          case rel => exact ⟨n + 1, t1, G3, by omega, by go_num, HS3.out, HK3.out, H3.out, G3'.out⟩
          case measure => simp [intOf]; omega
      · obtain rfl : n = 14 := by omega
        have x1 : ¬ ((14 : Nat) : Int) < 14 := by omega
        have hr := HR.out
        rw [show sizM (mY bs) z 14 0 s2 = (14, t) from HS.out] at hr
        have HR2 := Lib.hid hr
        clear hr HR HS HK UB
        cases V1
        all_goals (
          go_wp2
          go_ret
          exact ⟨by rw [HR2.out]; rfl, G, by rw [HR2.out]; exact HO.out, HG.out⟩)
set_option maxRecDepth 20000 in
set_option maxHeartbeats 4000000 in
theorem drask_any (a N : Nat) (d : Nat) (bs : List Nat) (o : Mo) (s : Ms Xc) (F : Nat → Prop) (w : World) (h : (DrF a d bs) w F s) (hk : okS okYm N s) (hN : N ≤ 899000) : Calls Try.prog 11 #[.pointer (some ⟨a, 0, none⟩), .agg #[.int .i64 o.k, .int .i64 o.c, .int .i64 o.v, .bool o.b]] w (FPost (DrF a d bs) F w (.int .i64 (askM (mY bs) s o).1) (askM (mY bs) s o).2) := by
  obtain ⟨k, c, v, b⟩ := o
  show Calls Try.prog 11 #[_, .agg #[.int .i64 k, .int .i64 c, .int .i64 v, .bool b]] w _
  have A := (Ext.refl w).alloc (.cells #[.int .i64 k, .int .i64 c, .int .i64 v, .bool b] 32)
  have UB := Lib.hid ((fun N c up s F w h hk hN => drbit_any a N d bs c up s F w h hk hN) N c b s F _ (h.ext A) hk (by omega))
  have UF := Lib.hid ((fun N up s F w h hk hN => drflat_any a N d bs up s F w h hk hN) N b s F _ (h.ext A) hk (by omega))
  have UK := Lib.hid (drkind_any a N d bs v s F _ (h.ext A) hk hN)
  have UM := Lib.hid (drmode_any a N d bs v s F _ (h.ext A) hk hN)
  have UP := Lib.hid (drpart_any a N d bs v s F _ (h.ext A) hk hN)
  have HA := Lib.hid (Step.of_ext (F := F) A)
  by_cases h0 : k = 0
  · have t0 : (k == 0) = true := by rw [beq_iff_eq]; exact h0
    have HR : Hid (askM (mY bs) s ⟨k, c, v, b⟩ = (flg (bitM (mY bs) s c b).1, (bitM (mY bs) s c b).2)) := if_pos h0
    rw [HR.out]
    obtain ⟨⟨V, s1⟩, e1⟩ : ∃ r, bitM (mY bs) s c b = r := ⟨_, rfl⟩
    rw [e1] at UB ⊢
    have UG := Lib.hid (mflag_any V)
    clear h hk e1 h0 A
    go_enter Try.func11, Try.ntmps11
    go_wp2_with fail
    refine (UB.out).mono ?_; rintro e w1 ⟨rfl, F1, h1, g1⟩
    have H1 := Lib.hid h1
    have G1 := Lib.hid (HA.out.trans g1)
    clear h1 g1
    go_wp2_with fail
    refine (UG.out _).mono ?_; rintro e w2 ⟨rfl, rfl⟩
    go_wp2
    go_ret
    exact ⟨rfl, F1, H1.out, G1.out⟩
  have t0 : (k == 0) = false := by rw [beq_eq_false_iff_ne]; exact h0
  by_cases h1 : k = 1
  · have t1 : (k == 1) = true := by rw [beq_iff_eq]; exact h1
    have HR : Hid (askM (mY bs) s ⟨k, c, v, b⟩ = (flg (flaM (mY bs) s b).1, (flaM (mY bs) s b).2)) := (if_neg h0).trans (if_pos h1)
    rw [HR.out]
    obtain ⟨⟨V, s1⟩, e1⟩ : ∃ r, flaM (mY bs) s b = r := ⟨_, rfl⟩
    rw [e1] at UF ⊢
    have UG := Lib.hid (mflag_any V)
    clear h hk e1 h0 h1 A
    go_enter Try.func11, Try.ntmps11
    go_wp2_with fail
    refine (UF.out).mono ?_; rintro e w1 ⟨rfl, F1, h1, g1⟩
    have H1 := Lib.hid h1
    have G1 := Lib.hid (HA.out.trans g1)
    clear h1 g1
    go_wp2_with fail
    refine (UG.out _).mono ?_; rintro e w2 ⟨rfl, rfl⟩
    go_wp2
    go_ret
    exact ⟨rfl, F1, H1.out, G1.out⟩
  have t1 : (k == 1) = false := by rw [beq_eq_false_iff_ne]; exact h1
  by_cases h2 : k = 2
  · have t2 : (k == 2) = true := by rw [beq_iff_eq]; exact h2
    have HR : Hid (askM (mY bs) s ⟨k, c, v, b⟩ = (((kindM (mY bs) s v).1 : Int), (kindM (mY bs) s v).2)) := (if_neg h0).trans ((if_neg h1).trans (if_pos h2))
    rw [HR.out]
    obtain ⟨⟨V, s1⟩, e1⟩ : ∃ r, kindM (mY bs) s v = r := ⟨_, rfl⟩
    rw [e1] at UK ⊢
    clear h hk e1 h0 h1 h2 A
    go_enter Try.func11, Try.ntmps11
    go_wp2_with fail
    refine (UK.out).mono ?_; rintro e w1 ⟨rfl, F1, h1, g1⟩
    have H1 := Lib.hid h1
    have G1 := Lib.hid (HA.out.trans g1)
    clear h1 g1
    go_wp2
    go_ret
    exact ⟨rfl, F1, H1.out, G1.out⟩
  have t2 : (k == 2) = false := by rw [beq_eq_false_iff_ne]; exact h2
  by_cases h3 : k = 3
  · have t3 : (k == 3) = true := by rw [beq_iff_eq]; exact h3
    have HR : Hid (askM (mY bs) s ⟨k, c, v, b⟩ = (((modeM (mY bs) s (cl3 v)).1 : Int), (modeM (mY bs) s (cl3 v)).2)) := (if_neg h0).trans ((if_neg h1).trans ((if_neg h2).trans (if_pos h3)))
    rw [HR.out]
    obtain ⟨⟨V, s1⟩, e1⟩ : ∃ r, modeM (mY bs) s (cl3 v) = r := ⟨_, rfl⟩
    rw [e1] at UM ⊢
    clear h hk e1 h0 h1 h2 h3 A
    go_enter Try.func11, Try.ntmps11
    go_wp2_with fail
    refine (UM.out).mono ?_; rintro e w1 ⟨rfl, F1, h1, g1⟩
    have H1 := Lib.hid h1
    have G1 := Lib.hid (HA.out.trans g1)
    clear h1 g1
    go_wp2
    go_ret
    exact ⟨rfl, F1, H1.out, G1.out⟩
  have t3 : (k == 3) = false := by rw [beq_eq_false_iff_ne]; exact h3
  have HR : Hid (askM (mY bs) s ⟨k, c, v, b⟩ = partM (mY bs) s (cl15 v)) := (if_neg h0).trans ((if_neg h1).trans ((if_neg h2).trans (if_neg h3)))
  rw [HR.out]
  obtain ⟨⟨V, s1⟩, e1⟩ : ∃ r, partM (mY bs) s (cl15 v) = r := ⟨_, rfl⟩
  rw [e1] at UP ⊢
  clear h hk e1 h0 h1 h2 h3 A
  go_enter Try.func11, Try.ntmps11
  go_wp2_with fail
  refine (UP.out).mono ?_; rintro e w1 ⟨rfl, F1, h1, g1⟩
  have H1 := Lib.hid h1
  have G1 := Lib.hid (HA.out.trans g1)
  clear h1 g1
  go_wp2
  go_ret
  exact ⟨rfl, F1, H1.out, G1.out⟩
end Go.Proofs.Ytkfdhnmlebnfkaa
