/- Contracts of this seat: Md8, Md9, Md10, Md11, Da1, ROrd. -/
import Derived.Test.YtpofabebmeickaaGreatDoorVwZi
import Derived.Test.YtpofabebmeickaaGreatDoorVwZj
import Derived.Deep.WholeRow
import Derived.Test.YtpofabebmeickaaGreatDoorVwZq
import Derived.Test.YtpofabebmeickaaGreatDoorVwZb
/- kinref13.Coder as a writer: an object and the blocks that it lies in: contracts over this seat's translation. -/
namespace Go.Proofs.YtpofabebmeickaaGreatDoor
set_option linter.unusedVariables false
set_option linter.unusedSimpArgs false
open Go.RowKit Go.Extern.Stop Go.Stop Go.Extern

theorem nrmX'_ok {N : Nat} : ∀ (f : Nat) {s : Xe}, okX' N s → okX' (N + f) (nrmX' f s)
  | 0, _, h => h
  | f + 1, s, h => by
    show okX' _ (if s.rr < 16777216 then nrmX' f (stpX' s) else s)
    split
    · rename_i hw
      have := nrmX'_ok (N := N + 1) f (stpX'_ok h hw)
      rw [show N + 1 + f = N + (f + 1) by omega] at this
      exact this
    · exact h.mono (by omega)
theorem nrmX'_wide : ∀ (f : Nat) {s : Xe}, 16777216 ≤ s.rr * 256 ^ f → 16777216 ≤ (nrmX' f s).rr
  | 0, s, h => by have h : 16777216 ≤ s.rr := by simpa using h
                  exact h
  | f + 1, s, h => by
    show 16777216 ≤ (if s.rr < 16777216 then nrmX' f (stpX' s) else s).rr
    split
    · exact nrmX'_wide f (s := stpX' s) (by show 16777216 ≤ s.rr * 256 * 256 ^ f; rw [Nat.mul_assoc, ← Nat.pow_succ']; exact h)
    · omega
theorem parX'_ok {N w : Nat} {s : Xe} {up : Bool} (h : okX' N s) (h1 : 1 ≤ w) (h2 : w < s.rr) : okXm (N + 4) (parX' s w up) := by
  obtain ⟨k1, k2⟩ := midX'_ok (up := up) h (Nat.le_of_lt h2)
  refine ⟨(nrmX'_ok 3 k1).mono (by omega), nrmX'_wide 3 ?_⟩
  rw [k2]
  show 16777216 ≤ _ * 16777216
  split <;> omega
theorem mkX : Mk mX okXm := ⟨fun p b p1 p2 h => by
    show okXm _ (codX' _ (p : Int) b)
    unfold codX'
    rw [chance_ok p1 p2, if_pos rfl, Int.toNat_natCast]
    exact parX'_ok h.1 (part_of h.2 (by omega) (by omega)).1 (part_of h.2 (by omega) (by omega)).2, fun b h => parX'_ok h.1 (by have := h.2; omega) (by have := h.2; omega), fun h k => ⟨h.1.mono k, h.2⟩⟩
/-- a kinref12.Encoder and its blocks -/
def XnF (b : Nat) (w : World) (F : Nat → Prop) (s : Xe) : Prop := ∃ v, XeBox w b v s.rr ∧ w.ownsRow 0 5 1 v s.bs.length (byC s.bs) ∧ v.ownBlock ≠ some b ∧ ∀ k, F k ↔ (k = b ∨ v.ownBlock = some k)
theorem XnF.lt {b : Nat} {w : World} {F : Nat → Prop} {s : Xe} (h : XnF b w F s) : ∀ k, F k → k < w.heap.size := by
  obtain ⟨v, h1, h2, h3, h4⟩ := h
  intro k hk
  rcases (h4 k).1 hk with rfl | hk
  · exact h1.lt
  · exact (h2.lt k hk).2
theorem XnF.same {b : Nat} {w w' : World} {F : Nat → Prop} {s : Xe} (h : XnF b w F s) (k : ∀ i, F i → w'.heap[i]? = w.heap[i]?) : XnF b w' F s := by
  obtain ⟨v, h1, h2, h3, h4⟩ := h
  exact ⟨v, h1.same (k b ((h4 b).2 (.inl rfl))), own_block h2 (fun g hg => k g ((h4 g).2 (.inr hg))), h3, h4⟩
theorem XnF.ext {b : Nat} {w w' : World} {F : Nat → Prop} {s : Xe} (h : XnF b w F s) (k : Ext w w') : XnF b w' F s := h.same (fun i hi => k.block (h.lt i hi))
theorem XnF.xe {b : Nat} {w : World} {F : Nat → Prop} {s : Xe} (h : XnF b w F s) : ∃ P, XeAt w b P s ∧ ∀ s' w', XeAt w' b P s' → PKp b P w w' → ∃ F', XnF b w' F' s' ∧ Step F w F' w' := by
  obtain ⟨v, h1, h2, h3, h4⟩ := h
  refine ⟨fun k => k = b ∨ (k < w.heap.size ∧ v.ownBlock ≠ some k), ⟨v, h1, h2, ?_, .inl rfl, ?_⟩, ?_⟩
  · rintro g hg (rfl | ⟨-, h⟩)
    · exact h3 hg
    · exact h hg
  · rintro g (rfl | ⟨h, -⟩)
    · exact h1.lt
    · exact h
  · rintro s' w' ⟨v', k1, k2, k3, -, -⟩ hk
    refine ⟨fun k => k = b ∨ v'.ownBlock = some k, ⟨v', k1, k2, fun e => k3 b e (.inl rfl), fun _ => Iff.rfl⟩, ⟨hk.1, hk.2.1, fun k hk2 hn => ?_⟩, ?_⟩
    · have hn' : k ≠ b ∧ v.ownBlock ≠ some k := ⟨fun e => hn ((h4 k).2 (.inl e)), fun e => hn ((h4 k).2 (.inr e))⟩
      exact hk.2.2 k hk2 hn'.1 (.inl (.inr ⟨hk2, hn'.2⟩))
    · rintro k (rfl | hk2)
      · exact .inl ((h4 k).2 (.inl rfl))
      · have := k3 k hk2
        rw [not_or, Classical.not_and_iff_not_or_not, Classical.not_not] at this
        rcases this.2 with e | e
        · exact .inr (by omega)
        · exact .inl ((h4 k).2 (.inr e))
theorem xnf_flat (b N : Nat) (up : Bool) (s : Xe) (F : Nat → Prop) (w : World) (h : XnF b w F s) (hk : okXm N s) (hN : N ≤ 4000000) : Calls Tryz.prog 94 #[.pointer (some ⟨b, 0, none⟩), .bool up] w (FPost (XnF b) F w (.tuple #[]) (parX' s (s.rr / 2) up)) := by
  obtain ⟨P, h1, h2⟩ := h.xe
  refine (xeflat_any b P N up s w h1 hk.1 (by omega) hk.2).mono ?_
  rintro e w' ⟨rfl, k1, k2⟩
  exact ⟨rfl, h2 _ _ k1 k2⟩
theorem xnf_code (b N : Nat) (p : Int) (up : Bool) (s : Xe) (F : Nat → Prop) (w : World) (h : XnF b w F s) (hk : okXm N s) (hN : N ≤ 4000000) : Calls Tryz.prog 96 #[.pointer (some ⟨b, 0, none⟩), .int .i64 p, .bool up] w (FPost (XnF b) F w (.agg #[.int .i64 (chC p), .slice none 0 0]) (codX' s p up)) := by
  obtain ⟨P, h1, h2⟩ := h.xe
  refine (xecode_any b P N p up s w h1 hk.1 (by omega) hk.2).mono ?_
  rintro e w' ⟨rfl, k1, k2⟩
  exact ⟨rfl, h2 _ _ k1 k2⟩
theorem xnf_end (b N : Nat) (s : Xe) (F : Nat → Prop) (w : World) (h : XnF b w F s) (hk : okXm N s) (hN : N ≤ 4000000) : Calls Tryz.prog 18 #[.pointer (some ⟨b, 0, none⟩)] w (XvPost w (trimE s.bs)) := by
  obtain ⟨P, h1, h2⟩ := h.xe
  exact xeend_any b P N s w h1 hk.1 (by omega)
/-- a writer of the document's and its blocks -/
def DwF (a : Nat) (w : World) (F : Nat → Prop) (s : Ms Xe) : Prop := ∃ b G, XnF b w G s.co ∧ ChAt w a 3 s.ch ∧ (w.cell? ⟨a, 0, none⟩ = some (.bool false) ∧ w.cell? ⟨a, 1, none⟩ = some (.pointer (some ⟨b, 0, none⟩))) ∧ ¬ G a ∧ ∀ k, F k ↔ (k = a ∨ G k)
theorem DwF.lt {a : Nat} {w : World} {F : Nat → Prop} {s : Ms Xe} (h : DwF a w F s) : ∀ k, F k → k < w.heap.size := by
  obtain ⟨b, G, h1, h2, h3, h4, h5⟩ := h
  intro k hk
  rcases (h5 k).1 hk with rfl | hk
  · exact h2.lt
  · exact h1.lt k hk
theorem DwF.same {a : Nat} {w w' : World} {F : Nat → Prop} {s : Ms Xe} (h : DwF a w F s) (k : ∀ i, F i → w'.heap[i]? = w.heap[i]?) : DwF a w' F s := by
  obtain ⟨b, G, h1, h2, h3, h4, h5⟩ := h
  have ka := k a ((h5 a).2 (.inl rfl))
  exact ⟨b, G, h1.same (fun i hi => k i ((h5 i).2 (.inr hi))), h2.same ka, ⟨(World.cell?_of_block (a := ⟨a, 0, none⟩) ka).trans h3.1, (World.cell?_of_block (a := ⟨a, 1, none⟩) ka).trans h3.2⟩, h4, h5⟩
theorem DwF.ext {a : Nat} {w w' : World} {F : Nat → Prop} {s : Ms Xe} (h : DwF a w F s) (k : Ext w w') : DwF a w' F s := h.same (fun i hi => k.block (h.lt i hi))
theorem DwF.ch {a : Nat} {w : World} {F : Nat → Prop} {s : Ms Xe} (h : DwF a w F s) : ChAt w a 3 s.ch := by obtain ⟨_, _, _, h, _⟩ := h; exact h
theorem DwF.inner {a b : Nat} {w w' : World} {F G G' : Nat → Prop} {s : Ms Xe} {t : Xe} (h2 : ChAt w a 3 s.ch) (h3 : w.cell? ⟨a, 0, none⟩ = some (.bool false) ∧ w.cell? ⟨a, 1, none⟩ = some (.pointer (some ⟨b, 0, none⟩))) (h4 : ¬ G a) (h5 : ∀ k, F k ↔ (k = a ∨ G k)) (k1 : XnF b w' G' t) (k2 : Step G w G' w') :
    DwF a w' (fun k => k = a ∨ G' k) ⟨s.ch, t⟩ ∧ Step F w (fun k => k = a ∨ G' k) w' := by
  have ha := h2.lt
  have e := k2.1.2.2 a ha h4
  refine ⟨⟨b, G', k1, h2.same e, ⟨(World.cell?_of_block (a := ⟨a, 0, none⟩) e).trans h3.1, (World.cell?_of_block (a := ⟨a, 1, none⟩) e).trans h3.2⟩, fun hg => (k2.2 a hg).elim h4 (by omega), fun _ => Iff.rfl⟩, ⟨k2.1.1, k2.1.2.1, fun k hk hn => k2.1.2.2 k hk (fun hg => hn ((h5 k).2 (.inr hg)))⟩, ?_⟩
  rintro k (rfl | hg)
  · exact .inl ((h5 k).2 (.inl rfl))
  · exact (k2.2 k hg).imp (fun h => (h5 k).2 (.inr h)) id
theorem DwF.learn {a c p : Nat} {w : World} {F : Nat → Prop} {s : Ms Xe} (h : DwF a w F s) (hc : c < 64) : DwF a (w.setCell ⟨a, 3 + c, none⟩ (.int .i64 (p : Int))) F ⟨setM s.ch c p, s.co⟩ ∧ Step F w F (w.setCell ⟨a, 3 + c, none⟩ (.int .i64 (p : Int))) := by
  obtain ⟨b, G, h1, h2, h3, h4, h5⟩ := h
  exact ⟨⟨b, G, h1.same (fun i hi => Below.heap_setCell _ _ _ _ (fun e => h4 (by rw [show i = a from e] at hi; exact hi))), h2.set hc p, ⟨(cell_off_ne _ (by omega)).trans h3.1, (cell_off_ne _ (by omega)).trans h3.2⟩, h4, h5⟩, Step.of_kp ((Kp.refl a w).set (3 + c) _) ((h5 a).2 (.inl rfl))⟩
set_option maxRecDepth 20000 in
theorem dwflat_any (a N : Nat) (up : Bool) (s : Ms Xe) (F : Nat → Prop) (w : World) (h : DwF a w F s) (hk : okS okXm N s) (hN : N ≤ 4000000) : Calls Tryz.prog 70 #[.pointer (some ⟨a, 0, none⟩), .bool up] w (FPost (DwF a) F w (.bool (flaM mX s up).1) (flaM mX s up).2) := by
  obtain ⟨b, G, h1, h2, h3, h4, h5⟩ := h
  have UF := Lib.hid (xnf_flat b N up s.co G w h1 hk.2 hN)
  have HI := Lib.hid (fun w' G' t (k1 : XnF b w' G' t) (k2 : Step G w G' w') => DwF.inner (s := s) h2 h3 h4 h5 k1 k2)
  obtain ⟨c0, c1⟩ := h3
  show Calls Tryz.prog 70 _ w (FPost (DwF a) F w (.bool up) ⟨s.ch, parX' s.co (s.co.rr / 2) up⟩)
  clear h1 h2 h4 h5 hk
  go_enter Tryz.func70, Tryz.ntmps70
  go_wp2_with fail
  refine (UF.out).mono ?_; rintro e w7 ⟨rfl, G', k1, k2⟩
  have HZ := Lib.hid (HI.out _ _ _ k1 k2)
  clear k1 k2
  go_wp2
  go_ret
  exact ⟨rfl, _, HZ.out⟩
theorem ctx_of {c : Int} (h : ctxM c = false) : c < 0 ∨ (¬ c < 0 ∧ 63 < c) := by
  unfold ctxM at h
  by_cases h1 : c < 0
  · exact .inl h1
  · refine .inr ⟨h1, ?_⟩
    rw [decide_eq_true (by omega : 0 ≤ c), Bool.true_and, decide_eq_false_iff_not] at h
    omega
set_option maxRecDepth 20000 in
set_option maxHeartbeats 4000000 in
theorem dwbit_any (a N : Nat) (c : Int) (up : Bool) (s : Ms Xe) (F : Nat → Prop) (w : World) (h : DwF a w F s) (hk : okS okXm N s) (hN : N ≤ 4000000) : Calls Tryz.prog 71 #[.pointer (some ⟨a, 0, none⟩), .int .i64 c, .bool up] w (FPost (DwF a) F w (.bool (bitM mX s c up).1) (bitM mX s c up).2) := by
  cases hc : ctxM c
  · have hb : bitM mX s c up = flaM mX s up := by unfold bitM; rw [hc]; rfl
    rw [hb]
    have UF := Lib.hid (dwflat_any a N up s F w h hk hN)
    have hcc := ctx_of hc
    clear h hk hb hc
    rcases hcc with x1 | ⟨x1, x2⟩
    all_goals (
      go_enter Tryz.func71, Tryz.ntmps71
      go_wp2_with fail
      refine (UF.out).mono ?_; rintro e w7 ⟨rfl, k⟩
      have HZ := Lib.hid k
      clear k
      go_wp2
      go_ret
      exact ⟨rfl, HZ.out⟩)
  · have hc' : (decide (0 ≤ c) && decide (c < 64)) = true := hc
    rw [Bool.and_eq_true, decide_eq_true_iff, decide_eq_true_iff] at hc'
    obtain ⟨n, rfl⟩ : ∃ n : Nat, c = (n : Int) := ⟨c.toNat, by omega⟩
    have hn : n < 64 := by omega
    obtain ⟨b, G, h1, h2, h3, h4, h5⟩ := h
    obtain ⟨p, hp⟩ : ∃ p, s.ch n = p := ⟨_, rfl⟩
    obtain ⟨p1, p2⟩ := hk.1 n
    rw [hp] at p1 p2
    have hbm : bitM mX s (n : Int) up = (up, ⟨setM s.ch n (lrnM p up), codX' s.co (p : Int) up⟩) := by
      unfold bitM
      rw [hc, if_pos rfl, Int.toNat_natCast, hp]
      rfl
    rw [hbm]
    have c0 := (h2 n hn).1
    rw [hp] at c0
    have UC := Lib.hid (xnf_code b N (p : Int) up s.co G w h1 hk.2 hN)
    have HI := Lib.hid (fun w' G' t (k1 : XnF b w' G' t) (k2 : Step G w G' w') => DwF.inner (s := s) h2 h3 h4 h5 k1 k2)
    have HP := Lib.hid hp
    obtain ⟨c1, c2⟩ := h3
    have x1 : (0 : Int) ≤ (n : Int) := by omega
    have x2 : (n : Int) < 64 := by omega
    have x3 : ¬ (n : Int) < 0 := by omega
    have x4 : ¬ 63 < (n : Int) := by omega
    clear h1 h2 h4 h5 hk hbm hc' hp hc
    cases up
    · obtain ⟨q, hq⟩ : ∃ q, (2048 - p) / 32 = q := ⟨_, rfl⟩
      obtain ⟨z, hz⟩ : ∃ z, 2048 - p = z := ⟨_, rfl⟩
      have s1 : IntKind.i64.wrap (2048 - (p : Int)) = (z : Int) := by rw [IntKind.wrap_i64]; omega
      have s2 : Int.tdiv (z : Int) 32 = (q : Int) := by rw [← hq, ← hz, show (32 : Int) = ((32 : Nat) : Int) from rfl, Int.ofNat_tdiv]
      have s3 : IntKind.i64.wrap (q : Int) = (q : Int) := by rw [IntKind.wrap_i64]; omega
      have s4 : IntKind.i64.wrap ((p : Int) + (q : Int)) = ((p + q : Nat) : Int) := by rw [IntKind.wrap_i64]; omega
      have hl : lrnM p false = p + q := by rw [← hq]; rfl
      rw [hl]
      clear hq hz hl p1 p2
      go_enter Tryz.func71, Tryz.ntmps71
      go_wp2_with fail
      refine (UC.out).mono ?_; rintro e w5 ⟨rfl, G', k1, k2⟩
      have HZ := Lib.hid (HI.out _ _ _ k1 k2)
      have HL := Lib.hid (HZ.out.1.learn (c := n) (p := p + q) hn)
      obtain ⟨d0, f0⟩ := HZ.out.1.ch n hn
      have d0 : w5.cell? ⟨a, 3 + n, none⟩ = some (.int .i64 (s.ch n : Int)) := d0
      clear k1 k2
      go_wp2
      go_ret
      exact ⟨rfl, _, HL.out.1, HZ.out.2.trans HL.out.2⟩
    · obtain ⟨q, hq⟩ : ∃ q, p / 32 = q := ⟨_, rfl⟩
      have s2 : Int.tdiv (p : Int) 32 = (q : Int) := by rw [← hq, show (32 : Int) = ((32 : Nat) : Int) from rfl, Int.ofNat_tdiv]
      have s3 : IntKind.i64.wrap (q : Int) = (q : Int) := by rw [IntKind.wrap_i64]; omega
      have s4 : IntKind.i64.wrap ((p : Int) - (q : Int)) = ((p - q : Nat) : Int) := by rw [IntKind.wrap_i64]; omega
      have hl : lrnM p true = p - q := by rw [← hq]; rfl
      rw [hl]
      clear hq hl p1 p2
      go_enter Tryz.func71, Tryz.ntmps71
      go_wp2_with fail
      refine (UC.out).mono ?_; rintro e w5 ⟨rfl, G', k1, k2⟩
      have HZ := Lib.hid (HI.out _ _ _ k1 k2)
      have HL := Lib.hid (HZ.out.1.learn (c := n) (p := p - q) hn)
      obtain ⟨d0, f0⟩ := HZ.out.1.ch n hn
      have d0 : w5.cell? ⟨a, 3 + n, none⟩ = some (.int .i64 (s.ch n : Int)) := d0
      clear k1 k2
      go_wp2
      go_ret
      exact ⟨rfl, _, HL.out.1, HZ.out.2.trans HL.out.2⟩
end Go.Proofs.YtpofabebmeickaaGreatDoor

/- kinref13: Writer; Kind, Mode, Part, and kinlaw13.wants with a writer: contracts over this seat's translation. -/
namespace Go.Proofs.YtpofabebmeickaaGreatDoor
set_option linter.unusedVariables false
set_option linter.unusedSimpArgs false
open Go.RowKit Go.Extern.Stop Go.Stop Go.Extern

def kinL {σ : Type} (M : Mc σ) (k : Int) : Nat → Nat → Ms σ → Nat × Ms σ
  | 0, n, s => (n, s)
  | f + 1, n, s => if (bitM M s (n : Int) (decide ((n : Int) < k))).1 then kinL M k f (n + 1) (bitM M s (n : Int) (decide ((n : Int) < k))).2 else (n, (bitM M s (n : Int) (decide ((n : Int) < k))).2)
theorem kind_L {σ : Type} (M : Mc σ) (k : Int) (s : Ms σ) : kindM M s k = kinL M k 3 0 s := by
  show kindM M s k = (if (bitM M s 0 (decide (0 < k))).1 = true then (if (bitM M (bitM M s 0 (decide (0 < k))).2 1 (decide (1 < k))).1 = true then (if (bitM M (bitM M (bitM M s 0 (decide (0 < k))).2 1 (decide (1 < k))).2 2 (decide (2 < k))).1 = true then (3, _) else (2, _)) else (1, _)) else (0, _))
  unfold kindM
  split
  · split
    · split <;> rfl
    · rfl
  · rfl
theorem kin_yes {σ : Type} {M : Mc σ} {k : Int} {f n : Nat} {s s1 : Ms σ} (h : bitM M s (n : Int) (decide ((n : Int) < k)) = (true, s1)) : kinL M k (f + 1) n s = kinL M k f (n + 1) s1 := by
  show (if _ = true then _ else _) = _
  rw [h]
  rfl
theorem kin_no {σ : Type} {M : Mc σ} {k : Int} {f n : Nat} {s s1 : Ms σ} (h : bitM M s (n : Int) (decide ((n : Int) < k)) = (false, s1)) : kinL M k (f + 1) n s = (n, s1) := by
  show (if _ = true then _ else _) = _
  rw [h]
  rfl
theorem XnF.new {b g cap : Nat} {w : World} (h : XeBox w b (.slice (some ⟨g, 0, none⟩) 4 cap) 4294967295) (ho : w.ownsRow 0 5 1 (.slice (some ⟨g, 0, none⟩) 4 cap) 4 (byC [0, 0, 0, 0])) (hg : g ≠ b) : XnF b w (fun k => k = b ∨ k = g) newX :=
  ⟨_, h, ho, fun e => hg (Option.some.inj e), fun k => ⟨fun e => e.imp id (fun e => by rw [e]; rfl), fun e => e.imp id (fun e => (Option.some.inj e).symm)⟩⟩
theorem own_zero2 {w : World} {base : Nat} {e : TypeId} {size n : Nat} {v : Value} {xs : List Value} (h : w.ownsRow base e size v n xs) : w.ownsRow 0 e size v n xs := by
  obtain ⟨h1, h2⟩ := h
  refine ⟨h1, ?_⟩
  rcases h2 with h2 | ⟨g, cap, cur, rfl, hg, hh, r⟩
  · exact .inl h2
  · exact .inr ⟨g, cap, cur, rfl, Nat.zero_le _, hh, r⟩
theorem DwF.congr {a : Nat} {w : World} {F : Nat → Prop} {f g : Nat → Nat} {t : Xe} (h : DwF a w F ⟨f, t⟩) (e : ∀ i, i < 64 → f i = g i) : DwF a w F ⟨g, t⟩ := by
  obtain ⟨b, G, h1, h2, h3, h4, h5⟩ := h
  exact ⟨b, G, h1, fun i hi => by show w.cell? ⟨a, 3 + i, none⟩ = some (.int .i64 (g i : Int)) ∧ _; rw [← e i hi]; exact h2 i hi, h3, h4, h5⟩
set_option maxRecDepth 20000 in
set_option maxHeartbeats 4000000 in
theorem dwfresh_any (a : Nat) (f : Nat → Nat) (F : Nat → Prop) (w : World) (h : DwF a w F ⟨f, newX⟩) : Calls Tryz.prog 31 #[.pointer (some ⟨a, 0, none⟩)] w fun e w' => e = .returned (.pointer (some ⟨a, 0, none⟩)) ∧ DwF a w' F ⟨ch0, newX⟩ ∧ Step F w F w' := by
  have H0 : Hid (DwF a w F ⟨fun i => if i < 0 then 1024 else f i, newX⟩) := h.congr (fun i _ => by rw [if_neg (by omega)])
  clear h
  go_enter Tryz.func31, Tryz.ntmps31
  go_wp2_with fail
  go_loopw [3] (fun iv wr => ∃ k : Nat, k ≤ 64 ∧ iv = .int .i64 (k : Int) ∧ Hid (DwF a wr F ⟨fun i => if i < k then 1024 else f i, newX⟩) ∧ Hid (Step F w F wr)) (fun iv _ => 64 - (intOf iv).toNat)
  case atStart => exact ⟨0, Nat.zero_le _, rfl, H0.out, Step.refl F w⟩
  case round =>
    clear H0
    obtain ⟨k, hk, rfl, HD, HS⟩ := hrel
    by_cases hlt : k < 64
    · have x1 : (0 : Int) ≤ (k : Int) := by omega
      have x2 : (k : Int) < 64 := by omega
      have HL := Lib.hid (HD.out.learn (c := k) (p := 1024) hlt)
      have HD2 : Hid (DwF a (wr.setCell ⟨a, 3 + k, none⟩ (.int .i64 1024)) F ⟨fun i => if i < k + 1 then 1024 else f i, newX⟩) := HL.out.1.congr (fun i _ => by
        show setM (fun i => if i < k then 1024 else f i) k 1024 i = if i < k + 1 then 1024 else f i
        unfold setM
        by_cases e1 : i = k
        · rw [if_pos e1, if_pos (by omega)]
        · by_cases e2 : i < k
          · rw [if_neg e1, if_pos (by omega)]
            exact if_pos e2
          · rw [if_neg e1, if_neg (by omega)]
            exact if_neg e2)
      have HS2 := Lib.hid (HS.out.trans HL.out.2)
      obtain ⟨c0, f0⟩ := HD.out.ch k hlt
      clear HL HD HS
      go_wp2
      go_roundw
      case rel => exact ⟨k + 1, by omega, by go_num, HD2.out, HS2.out⟩
      case measure => simp [intOf]; omega
    · obtain rfl : k = 64 := by omega
      have x2 : ¬ ((64 : Nat) : Int) < 64 := by omega
      have HD2 : Hid (DwF a wr F ⟨ch0, newX⟩) := HD.out.congr (fun i hi => if_pos hi)
      clear HD
      go_wp2
      go_ret
      exact ⟨rfl, HD2.out, HS.out⟩
def NdwPost (w : World) (e : Ending) (w' : World) : Prop := ∃ a F, e = .returned (.pointer (some ⟨a, 0, none⟩)) ∧ (∀ k, F k → w.heap.size ≤ k) ∧ DwF a w' F ⟨ch0, newX⟩ ∧ Ext w w'
set_option maxRecDepth 20000 in
theorem dwnew_any (w : World) : Calls Tryz.prog 9 #[] w (NdwPost w) := by
  go_enter Tryz.func9, Tryz.ntmps9
  go_wp2_with fail
  refine (newxe_any _).mono ?_; rintro e w2 ⟨b, g, cap, rfl, hb, hg, hbx, ho, hx2⟩
  have hg1 := (ho.lt g rfl)
  have HX := Lib.hid (XnF.new hbx (own_zero2 ho) hg)
  have HE := Lib.hid hx2
  have hb2 := hbx.lt
  clear hbx ho hx2 hg
  have hO : (Tryz.zeroCells59.setIfInBounds 1 (Value.pointer (some ⟨b, 0, none⟩))) = ([Value.bool false, .pointer (some ⟨b, 0, none⟩), .pointer none] ++ mzt).toArray := by kernel_rfl
  have hh := heap_alloc_last w2 (.cells (Tryz.zeroCells59.setIfInBounds 1 (Value.pointer (some ⟨b, 0, none⟩))) 59)
  have A := (Ext.refl w2).alloc (.cells (Tryz.zeroCells59.setIfInBounds 1 (Value.pointer (some ⟨b, 0, none⟩))) 59)
  have hD : Hid (DwF w2.heap.size (w2.alloc (.cells (Tryz.zeroCells59.setIfInBounds 1 (Value.pointer (some ⟨b, 0, none⟩))) 59)) (fun k => k = w2.heap.size ∨ (k = b ∨ k = g)) ⟨fun _ => 0, newX⟩) := by
    rw [hO] at hh ⊢
    refine ⟨b, _, HX.out.ext (by rw [← hO]; exact A), fun i hi => ⟨?_, fro_of hh⟩, ⟨?_, ?_⟩, ?_, fun _ => Iff.rfl⟩
    · rw [cell_of_row _ _ _ _ _ _ hh, List.getElem?_toArray, List.getElem?_append_right (by simp)]
      rw [show 3 + i - [Value.bool false, .pointer (some ⟨b, 0, none⟩), .pointer none].length = i by simp]
      exact rep_get 64 i _ hi
    · rw [cell_of_row _ _ _ _ _ _ hh]; rfl
    · rw [cell_of_row _ _ _ _ _ _ hh]; rfl
    · rintro (e | e) <;> omega
  have HEA := Lib.hid (HE.out.trans A)
  have UF := Lib.hid (dwfresh_any _ _ _ _ hD.out)
  have hF : ∀ k, (k = w2.heap.size ∨ (k = b ∨ k = g)) → w.heap.size ≤ k := by
    have := HE.out.size
    rintro k (e | e | e) <;> omega
  clear hO hh A HX hD
  go_wp2_with fail
  refine (UF.out).mono ?_; rintro e w5 ⟨rfl, h1, h2⟩
  have HD := Lib.hid h1
  have HS := Lib.hid h2
  have HEF := Lib.hid (h2.out HEA.out hF)
  clear h1 h2
  go_wp2
  go_ret
  exact ⟨_, _, rfl, hF, HD.out, HEF.out.1⟩
set_option maxRecDepth 20000 in
set_option maxHeartbeats 4000000 in
theorem dwkind_any (a N : Nat)  (k : Int) (s : Ms Xe) (F : Nat → Prop) (w : World) (h : (DwF a) w F s) (hk : okS okXm N s) (hN : N ≤ 3999000) : Calls Tryz.prog 69 #[.pointer (some ⟨a, 0, none⟩), .int .i64 k] w (FPost (DwF a) F w (.int .i64 ((kindM mX s k).1 : Int)) (kindM mX s k).2) := by
  have UB := Lib.hid ((fun N c up s F w h hk hN => dwbit_any a N c up s F w h hk hN))
  rw [kind_L]
  have H0 := Lib.hid h
  have HK0 := Lib.hid hk
  clear h hk
  go_enter Tryz.func69, Tryz.ntmps69
  go_wp2_with fail
  go_loopw [5] (fun iv wr => ∃ (n : Nat) (t : Ms Xe) (G : Nat → Prop), n ≤ 3 ∧ iv = .int .i64 (n : Int) ∧ Hid (kinL mX k 3 0 s = kinL mX k (3 - n) n t) ∧ Hid (okS okXm (N + 4 * n) t) ∧ Hid ((DwF a) wr G t) ∧ Hid (Step F w G wr)) (fun iv _ => 3 - (intOf iv).toNat)
  case atStart => exact ⟨0, s, F, Nat.zero_le _, rfl, rfl, HK0.out, H0.out, Step.refl F w⟩
  case round =>
    clear H0 HK0
    obtain ⟨n, t, G, hn, rfl, HS, HK, HO, HG⟩ := hrel
    by_cases hlt : n < 3
    · obtain ⟨f, hf⟩ : ∃ f, 3 - n = f + 1 := ⟨2 - n, by omega⟩
      have hs := HS.out
      rw [hf] at hs
      obtain ⟨bz, hbz⟩ : ∃ b, decide ((n : Int) < k) = b := ⟨_, rfl⟩
      obtain ⟨⟨V2, t1⟩, e2⟩ : ∃ r, bitM mX t (n : Int) (decide ((n : Int) < k)) = r := ⟨_, rfl⟩
      have HY : Hid (V2 = true → kinL mX k 3 0 s = kinL mX k (3 - (n + 1)) (n + 1) t1) := fun e => by
        subst e
        rw [hs, kin_yes e2, show 3 - (n + 1) = f by omega]
      have HN : Hid (V2 = false → kinL mX k 3 0 s = (n, t1)) := fun e => by
        subst e
        rw [hs, kin_no e2]
      have k3 := bit_ok mkX (n : Int) (decide ((n : Int) < k)) HK.out
      rw [e2] at k3
      have HK3 : Hid (okS okXm (N + 4 * (n + 1)) t1) := k3
      have U2 := Lib.hid (UB.out (N + 4 * n) (n : Int) (decide ((n : Int) < k)) t G wr HO.out HK.out (by omega))
      rw [e2, hbz] at U2
      have x1 : (n : Int) < 3 := by omega
      have d3 := hbz
      clear hs hf hbz e2 k3 HS HK HO
      go_wp2_with fail
      refine (U2.out).mono ?_; rintro e w3 ⟨rfl, G3, h3, g3⟩
      have H3 := Lib.hid h3
      have G3' := Lib.hid (HG.out.trans g3)
      clear h3 g3 HG
      cases V2
      · have HRR := Lib.hid (HN.out rfl)
        clear HN HY U2 UB
        go_wp2
        go_ret
        exact ⟨by rw [HRR.out]; rfl, G3, by rw [HRR.out]; exact H3.out, G3'.out⟩
      · have HS3 := Lib.hid (HY.out rfl)
        clear HN HY U2
        go_wp2
        go_roundw
        case rel => exact ⟨n + 1, t1, G3, by omega, by go_num, HS3.out, HK3.out, H3.out, G3'.out⟩
        case measure => simp [intOf]; omega
    · obtain rfl : n = 3 := by omega
      have x1 : ¬ ((3 : Nat) : Int) < 3 := by omega
      have HRR : Hid (kinL mX k 3 0 s = (3, t)) := HS.out
      clear HS HK UB
      go_wp2
      go_ret
      exact ⟨by rw [HRR.out]; rfl, G, by rw [HRR.out]; exact HO.out, HG.out⟩
set_option maxRecDepth 20000 in
set_option maxHeartbeats 4000000 in
theorem dwmode_any (a N : Nat)  (k : Int) (s : Ms Xe) (F : Nat → Prop) (w : World) (h : (DwF a) w F s) (hk : okS okXm N s) (hN : N ≤ 3999000) : Calls Tryz.prog 45 #[.pointer (some ⟨a, 0, none⟩), .int .i64 k] w (FPost (DwF a) F w (.int .i64 ((modeM mX s (cl3 k)).1 : Int)) (modeM mX s (cl3 k)).2) := by
  have UB := Lib.hid ((fun N c up s F w h hk hN => dwbit_any a N c up s F w h hk hN))
  obtain ⟨m, hm⟩ : ∃ m, cl3 k = m := ⟨_, rfl⟩
  have hmk : min (max k 0) 3 = (m : Int) := by rw [← hm]; unfold cl3; omega
  rw [hm]
  have hm4 : m ≤ 3 := by omega
  obtain ⟨r, hr⟩ : ∃ r, m % 2 = r := ⟨_, rfl⟩
  have s1 : Int.tmod (m : Int) 2 = (r : Int) := by rw [← hr, show (2 : Int) = ((2 : Nat) : Int) from rfl, Int.ofNat_tmod]
  obtain ⟨b1, hb1⟩ : ∃ b, decide (1 < m) = b := ⟨_, rfl⟩
  obtain ⟨b2, hb2⟩ : ∃ b, decide (m % 2 = 1) = b := ⟨_, rfl⟩
  have d1 : decide (1 < (m : Int)) = b1 := by rw [← hb1]; exact decide_eq_decide.2 (by omega)
  have d2 : ((r : Int) == 1) = b2 := by
    rw [← hb2]
    by_cases e : m % 2 = 1
    · rw [decide_eq_true e, beq_iff_eq]; omega
    · rw [decide_eq_false e, beq_eq_false_iff_ne]; omega
  obtain ⟨⟨V0, t1⟩, e0⟩ : ∃ r, bitM mX s 3 b1 = r := ⟨_, rfl⟩
  obtain ⟨⟨V1, t2⟩, e1⟩ : ∃ r, bitM mX t1 5 b2 = r := ⟨_, rfl⟩
  obtain ⟨⟨V2, t3⟩, e2⟩ : ∃ r, bitM mX t1 4 b2 = r := ⟨_, rfl⟩
  have k1 := bit_ok mkX 3 b1 hk
  rw [e0] at k1
  have HR : Hid (modeM mX s m = if V0 then (if V1 then 3 else 2, t2) else (if V2 then 1 else 0, t3)) := by
    show _ = _
    unfold modeM
    rw [hb1, hb2, e0]
    show (if V0 = true then (if (bitM mX t1 5 b2).1 = true then 3 else 2, (bitM mX t1 5 b2).2) else (if (bitM mX t1 4 b2).1 = true then 1 else 0, (bitM mX t1 4 b2).2)) = _
    rw [e1, e2]
  have U0 := Lib.hid (UB.out N 3 b1 s F w h hk (by omega))
  have U1 := Lib.hid (fun F w' (h : (DwF a) w' F t1) => UB.out (N + 4) 5 b2 t1 F w' h k1 (by omega))
  have U2 := Lib.hid (fun F w' (h : (DwF a) w' F t1) => UB.out (N + 4) 4 b2 t1 F w' h k1 (by omega))
  rw [e0] at U0
  rw [e1] at U1
  rw [e2] at U2
  clear h hk k1 hb1 hb2 e0 e1 e2 UB hm hr hm4
  go_enter Tryz.func45, Tryz.ntmps45
  go_wp2_with fail
  refine (U0.out).mono ?_; rintro e w1 ⟨rfl, F1, h1, g1⟩
  have H1 := Lib.hid h1
  have G1 := Lib.hid g1
  clear h1 g1
  cases V0
  · go_wp2_with fail
    refine (U2.out _ _ H1.out).mono ?_; rintro e w2 ⟨rfl, F2, h2, g2⟩
    have H2 := Lib.hid h2
    have G2 := Lib.hid (G1.out.trans g2)
    clear h2 g2 H1 G1
    cases V2
    all_goals (
      go_wp2
      go_ret
      exact ⟨by rw [HR.out]; rfl, F2, by rw [HR.out]; exact H2.out, G2.out⟩)
  · go_wp2_with fail
    refine (U1.out _ _ H1.out).mono ?_; rintro e w2 ⟨rfl, F2, h2, g2⟩
    have H2 := Lib.hid h2
    have G2 := Lib.hid (G1.out.trans g2)
    clear h2 g2 H1 G1
    cases V1
    all_goals (
      go_wp2
      go_ret
      exact ⟨by rw [HR.out]; rfl, F2, by rw [HR.out]; exact H2.out, G2.out⟩)
set_option maxRecDepth 20000 in
set_option maxHeartbeats 4000000 in
theorem dwpart_any (a N : Nat)  (k : Int) (s : Ms Xe) (F : Nat → Prop) (w : World) (h : (DwF a) w F s) (hk : okS okXm N s) (hN : N ≤ 3999000) : Calls Tryz.prog 44 #[.pointer (some ⟨a, 0, none⟩), .int .i64 k] w (FPost (DwF a) F w (.int .i64 (partM mX s (cl15 k)).1) (partM mX s (cl15 k)).2) := by
  have UB := Lib.hid ((fun N c up s F w h hk hN => dwbit_any a N c up s F w h hk hN))
  have UF := Lib.hid ((fun N up s F w h hk hN => dwflat_any a N up s F w h hk hN))
  obtain ⟨v, hv⟩ : ∃ v, cl15 k = v := ⟨_, rfl⟩
  have hvk : min (max k (-15)) 15 = v := by rw [← hv]; unfold cl15; omega
  rw [hv]
  have hv1 : -15 ≤ v := by omega
  have hv2 : v ≤ 15 := by omega
  have q1 : IntKind.i64.wrap (-v) = -v := by rw [IntKind.wrap_i64]; omega
  obtain ⟨z, hz⟩ : ∃ z, (v.natAbs : Int) - 1 = z := ⟨_, rfl⟩
  have hzm : max v (-v) - 1 = z := by rw [← hz]; omega
  have q2 : IntKind.i64.wrap z = z := by rw [IntKind.wrap_i64]; omega
  have q3 : IntKind.i64.wrap (max v (-v) - 1) = z := by rw [hzm]; exact q2
  obtain ⟨b0, hb0⟩ : ∃ b, decide (v ≠ 0) = b := ⟨_, rfl⟩
  obtain ⟨b1, hb1⟩ : ∃ b, decide (v < 0) = b := ⟨_, rfl⟩
  have d0 : (v != 0) = b0 := by
    rw [← hb0]
    by_cases e : v = 0
    · subst e; rfl
    · rw [decide_eq_true e]; exact bne_iff_ne.2 e
  obtain ⟨⟨V0, s1⟩, e0⟩ : ∃ r, bitM mX s 6 b0 = r := ⟨_, rfl⟩
  obtain ⟨⟨V1, s2⟩, e1⟩ : ∃ r, flaM mX s1 b1 = r := ⟨_, rfl⟩
  have k1 := bit_ok mkX 6 b0 hk
  rw [e0] at k1
  have k2 := fla_ok mkX b1 k1
  rw [e1] at k2
  have HR := Lib.hid (part_split (M := mX) (s := s) (v := v) (by rw [hb0, e0]) (by rw [hb1, e1]))
  rw [hz] at HR
  have HK2 := Lib.hid k2
  have U0 := Lib.hid (UB.out N 6 b0 s F w h hk (by omega))
  have U1 := Lib.hid (fun F w' (h : (DwF a) w' F s1) => UF.out (N + 4) b1 s1 F w' h k1 (by omega))
  rw [e0] at U0
  rw [e1] at U1
  clear h hk k1 k2 hb0 e0 e1 UF hv hz hzm q2
  go_enter Tryz.func44, Tryz.ntmps44
  go_wp2_with fail
  refine (U0.out).mono ?_; rintro e w1 ⟨rfl, F1, h1, g1⟩
  have H1 := Lib.hid h1
  have G1 := Lib.hid g1
  clear h1 g1
  cases V0
  · go_wp2
    go_ret
    exact ⟨by rw [HR.out]; rfl, F1, by rw [HR.out]; exact H1.out, G1.out⟩
  · go_wp2_with fail
    refine (U1.out _ _ H1.out).mono ?_; rintro e w2 ⟨rfl, F2, h2, g2⟩
    have H2 := Lib.hid h2
    have G2 := Lib.hid (G1.out.trans g2)
    clear h2 g2 H1 G1 U0 U1
    go_wp2_with fail
    go_loopw [7] (fun iv wr => ∃ (n : Nat) (t : Ms Xe) (G : Nat → Prop), n ≤ 14 ∧ iv = .int .i64 (n : Int) ∧ Hid (sizM mX z 14 0 s2 = sizM mX z (14 - n) n t) ∧ Hid (okS okXm (N + 4 + 4 + 4 * n) t) ∧ Hid ((DwF a) wr G t) ∧ Hid (Step F w G wr)) (fun iv _ => 14 - (intOf iv).toNat)
    case atStart => exact ⟨0, s2, F2, Nat.zero_le _, rfl, rfl, HK2.out, H2.out, G2.out⟩
    case round =>
      clear H2 G2 HK2
      obtain ⟨n, t, G, hn, rfl, HS, HK, HO, HG⟩ := hrel
      by_cases hlt : n < 14
      · obtain ⟨f, hf⟩ : ∃ f, 14 - n = f + 1 := ⟨13 - n, by omega⟩
        have hs := HS.out
        rw [hf] at hs
        obtain ⟨C, hC⟩ : ∃ C : Nat, 7 + min n 6 = C := ⟨_, rfl⟩
        obtain ⟨bz, hbz⟩ : ∃ b, decide ((n : Int) < z) = b := ⟨_, rfl⟩
        obtain ⟨⟨V2, t1⟩, e2⟩ : ∃ r, bitM mX t ((7 + min n 6 : Nat) : Int) (decide ((n : Int) < z)) = r := ⟨_, rfl⟩
        have HY : Hid (V2 = true → sizM mX z 14 0 s2 = sizM mX z (14 - (n + 1)) (n + 1) t1) := fun e => by
          subst e
          rw [hs, siz_yes e2, show 14 - (n + 1) = f by omega]
        have HN : Hid (V2 = false → sizM mX z 14 0 s2 = (n, t1)) := fun e => by
          subst e
          rw [hs, siz_no e2]
        have k3 := bit_ok mkX ((7 + min n 6 : Nat) : Int) (decide ((n : Int) < z)) HK.out
        rw [e2] at k3
        have HK3 : Hid (okS okXm (N + 4 + 4 + 4 * (n + 1)) t1) := k3
        have U2 := Lib.hid (UB.out (N + 4 + 4 + 4 * n) ((7 + min n 6 : Nat) : Int) (decide ((n : Int) < z)) t G wr HO.out HK.out (by omega))
        rw [e2, hbz, hC] at U2
        have x1 : (n : Int) < 14 := by omega
        have q4 : IntKind.i64.wrap (7 + min (n : Int) 6) = (C : Int) := by rw [IntKind.wrap_i64]; omega
        have d3 := hbz
        clear hs hf hC hbz e2 k3 HS HK HO
        go_wp2_with fail
        refine (U2.out).mono ?_; rintro e w3 ⟨rfl, G3, h3, g3⟩
        have H3 := Lib.hid h3
        have G3' := Lib.hid (HG.out.trans g3)
        clear h3 g3 HG
        cases V2
        · have HRR := HN.out rfl
          have q5 : IntKind.i64.wrap (-(n : Int)) = -(n : Int) := by rw [IntKind.wrap_i64]; omega
          have q6 : IntKind.i64.wrap (-(n : Int) - 1) = -(n : Int) - 1 := by rw [IntKind.wrap_i64]; omega
          have q7 : IntKind.i64.wrap ((n : Int) + 1) = (n : Int) + 1 := by rw [IntKind.wrap_i64]; omega
          have hr := HR.out
          rw [HRR] at hr
          have HR2 := Lib.hid hr
          clear hr HRR HR HN HY U2 UB
          cases V1
          all_goals (
            go_wp2
            go_ret
            exact ⟨by rw [HR2.out]; rfl, G3, by rw [HR2.out]; exact H3.out, G3'.out⟩)
        · have HS3 := Lib.hid (HY.out rfl)
          clear HN HY U2
          go_wp2
          go_roundw
          case rel => exact ⟨n + 1, t1, G3, by omega, by go_num, HS3.out, HK3.out, H3.out, G3'.out⟩
          case measure => simp [intOf]; omega
      · obtain rfl : n = 14 := by omega
        have x1 : ¬ ((14 : Nat) : Int) < 14 := by omega
        have hr := HR.out
        rw [show sizM mX z 14 0 s2 = (14, t) from HS.out] at hr
        have HR2 := Lib.hid hr
        clear hr HR HS HK UB
        cases V1
        all_goals (
          go_wp2
          go_ret
          exact ⟨by rw [HR2.out]; rfl, G, by rw [HR2.out]; exact HO.out, HG.out⟩)
end Go.Proofs.YtpofabebmeickaaGreatDoor

/- kinref13.Coder as a reader: an object and the blocks that it lies in: contracts over this seat's translation. -/
namespace Go.Proofs.YtpofabebmeickaaGreatDoor
set_option linter.unusedVariables false
set_option linter.unusedSimpArgs false
open Go.RowKit Go.Extern.Stop Go.Stop Go.Extern

end Go.Proofs.YtpofabebmeickaaGreatDoor

/- kinref13: Kind, Mode, Part, and kinlaw13.wants with a reader: contracts over this seat's translation. -/
namespace Go.Proofs.YtpofabebmeickaaGreatDoor
set_option linter.unusedVariables false
set_option linter.unusedSimpArgs false
open Go.RowKit Go.Extern.Stop Go.Stop Go.Extern

end Go.Proofs.YtpofabebmeickaaGreatDoor

/- kinref14.size, rest: contracts over this seat's translation. -/
namespace Go.Proofs.YtpofabebmeickaaGreatDoor
set_option linter.unusedVariables false
set_option linter.unusedSimpArgs false
open Go.RowKit Go.Extern.Stop Go.Stop Go.Extern

theorem shr_anyU (u : Int) (k : Nat) (h : k ≤ 13) : Op.shift .shr .i64 u .u64 (k : Int) = pure (.int .i64 (u / (2 : Int) ^ k)) := by
  unfold Op.shift
  rw [if_neg (by omega)]
  have e : min (k : Int).toNat IntKind.i64.bits = k := by rw [show IntKind.i64.bits = 64 from rfl]; omega
  rw [e]
  show pure (Value.int .i64 (u.fdiv (2 ^ k))) = _
  rw [Int.fdiv_eq_ediv_of_nonneg _ (Int.le_of_lt (two_pos k))]
theorem wrap_u64n (m : Nat) (h : m ≤ 14) : IntKind.u64.wrap (m : Int) = (m : Int) := by rw [IntKind.wrap_u64]; omega
theorem lastP_pos (xs : List Int) (od : List Nat) : ∀ m, 0 < lastP xs od m → xs.getD (od.getD (lastP xs od m) 0) 0 ≠ 0
  | 0, h => absurd h (Nat.lt_irrefl _)
  | m + 1, h => by
    unfold lastP at h ⊢
    split
    · assumption
    · rename_i hz
      rw [if_neg hz] at h
      exact lastP_pos xs od m h
set_option maxRecDepth 20000 in
set_option maxHeartbeats 2000000 in
theorem dwsize_any (a N : Nat)  (C : Nat) (hC : C ≤ 80) (z : Int) (hz0 : -20 ≤ z) (hz1 : z ≤ 17000) (s : Ms Xe) (F : Nat → Prop) (w : World) (h : (DwF a) w F s) (hk : okS okXm N s) (hN : N ≤ 3990000) : Calls Tryz.prog 76 #[.pointer (some ⟨a, 0, none⟩), .int .i64 (C : Int), .int .i64 z] w (FPost (DwF a) F w (.int .i64 ((csM mX (C + 17) z 14 0 s).1 : Int)) (csM mX (C + 17) z 14 0 s).2) := by
  have UB := Lib.hid ((fun N c up s F w h hk hN => dwbit_any a N c up s F w h hk hN))
  have UF := Lib.hid ((fun N up s F w h hk hN => dwflat_any a N up s F w h hk hN))
  have HK := Lib.hid hk
  have HO := Lib.hid h
  have p1 : IntKind.i64.wrap ((C : Int) + 17) = (C : Int) + 17 := by rw [IntKind.wrap_i64]; omega
  have r2 := mn2
  clear h hk
  go_enter Tryz.func76, Tryz.ntmps76
  go_wp2_with fail
  go_loopw [7] (fun iv wr => ∃ (n : Nat) (t : Ms Xe) (G : Nat → Prop), n ≤ 14 ∧ iv = .int .i64 (n : Int) ∧ Hid (csM mX (C + 17) z 14 0 s = csM mX (C + 17) z (14 - n) n t) ∧ Hid (okS okXm (N + 4 * n) t) ∧ Hid ((DwF a) wr G t) ∧ Hid (Step F w G wr)) (fun iv _ => 14 - (intOf iv).toNat)
  case atStart => exact ⟨0, s, F, Nat.zero_le _, rfl, rfl, HK.out, HO.out, Step.of_ext (Ext.refl w)⟩
  case round =>
    clear HO HK
    obtain ⟨n, t, G, hn, rfl, HS, HK, HO, HG⟩ := hrel
    by_cases hlt : n < 14
    · obtain ⟨f, hf⟩ : ∃ f, 14 - n = f + 1 := ⟨13 - n, by omega⟩
      have hs := HS.out
      rw [hf] at hs
      obtain ⟨D, hD⟩ : ∃ D : Nat, C + 17 + min n 7 = D := ⟨_, rfl⟩
      obtain ⟨bz, hbz⟩ : ∃ b, decide ((n : Int) < z) = b := ⟨_, rfl⟩
      obtain ⟨⟨V2, t1⟩, e2⟩ : ∃ r, bitM mX t ((C + 17 + min n 7 : Nat) : Int) (decide ((n : Int) < z)) = r := ⟨_, rfl⟩
      have HY : Hid (V2 = true → csM mX (C + 17) z 14 0 s = csM mX (C + 17) z (14 - (n + 1)) (n + 1) t1) := fun e => by
        subst e
        rw [hs, cs_yes e2, show 14 - (n + 1) = f by omega]
      have HX : Hid (V2 = false → csM mX (C + 17) z 14 0 s = (n, t1)) := fun e => by
        subst e
        rw [hs, cs_no e2]
      have k3 := bit_ok mkX ((C + 17 + min n 7 : Nat) : Int) (decide ((n : Int) < z)) HK.out
      rw [e2] at k3
      have HK3 : Hid (okS okXm (N + 4 * (n + 1)) t1) := k3
      have U2 := Lib.hid (UB.out (N + 4 * n) ((C + 17 + min n 7 : Nat) : Int) (decide ((n : Int) < z)) t G wr HO.out HK.out (by omega))
      rw [e2, hbz, hD] at U2
      have x1 : (n : Int) < 14 := by omega
      have q4 : IntKind.i64.wrap ((C : Int) + 17 + min (n : Int) 7) = (D : Int) := by rw [IntKind.wrap_i64]; omega
      have d3 := hbz
      clear hs hf hD hbz e2 k3 HS HK HO
      go_wp2_with fail
      refine (U2.out).mono ?_; rintro e w3 ⟨rfl, G3, h3, g3⟩
      have H3 := Lib.hid h3
      have G3' := Lib.hid (HG.out.trans g3)
      clear h3 g3 HG
      cases V2
      · have HRR := Lib.hid (HX.out rfl)
        clear HX HY U2 UB UF
        go_wp2
        go_ret
        exact ⟨by rw [HRR.out]; rfl, G3, by rw [HRR.out]; exact H3.out, G3'.out⟩
      · have HS3 := Lib.hid (HY.out rfl)
        clear HX HY U2
        go_wp2
        go_roundw
        case rel => exact ⟨n + 1, t1, G3, by omega, by go_num, HS3.out, HK3.out, H3.out, G3'.out⟩
        case measure => simp [intOf] <;> omega
    · obtain rfl : n = 14 := by omega
      have x1 : ¬ ((14 : Nat) : Int) < 14 := by omega
      obtain ⟨u, hu⟩ : ∃ u, z - 13 = u := ⟨_, rfl⟩
      have q5 : IntKind.i64.wrap (z - 13) = u := by rw [IntKind.wrap_i64]; omega
      have hu0 : -100 ≤ u := by omega
      have hu1 : u ≤ 20000 := by omega
      have HS0 : Hid (csM mX (C + 17) z 14 0 s = (13 + (rstM mX u t).1, (rstM mX u t).2)) := by
        show _ = _
        rw [HS.out, ← hu]
        rfl
      clear HS hu hlt hn hz0 hz1 p1
      go_wp2_with fail
      go_loopw [9] (fun iv wr => ∃ (n : Nat) (t1 : Ms Xe) (G : Nat → Prop), n ≤ 13 ∧ iv = .int .i64 (n : Int) ∧ Hid (rzM mX u 13 0 t = rzM mX u (13 - n) n t1) ∧ Hid (okS okXm (N + 4 * 14 + 4 * n) t1) ∧ Hid ((DwF a) wr G t1) ∧ Hid (Step F w G wr)) (fun iv _ => 13 - (intOf iv).toNat)
      case atStart => exact ⟨0, t, G, Nat.zero_le _, rfl, rfl, HK.out, HO.out, HG.out⟩
      case round =>
        clear HK HO HG
        obtain ⟨n, t1, G1, hn, rfl, HS, HK, HO, HG⟩ := hrel
        by_cases hlt : n < 13
        · have x1 : (n : Int) < 13 := by omega
          obtain ⟨f, hf⟩ : ∃ f, 13 - n = f + 1 := ⟨12 - n, by omega⟩
          have hs := HS.out
          rw [hf] at hs
          obtain ⟨m, hm⟩ : ∃ m : Nat, n + 1 = m := ⟨_, rfl⟩
          have q1 : IntKind.i64.wrap ((n : Int) + 1) = (m : Int) := by rw [IntKind.wrap_i64]; omega
          have q6 : IntKind.u64.wrap (m : Int) = (m : Int) := wrap_u64n m (by omega)
          have q4 : IntKind.i64.wrap ((2 : Int) ^ m) = (2 : Int) ^ m := wrap_two m (by omega)
          obtain ⟨g, hg⟩ : ∃ g, geAt u n = g := ⟨_, rfl⟩
          have q3 : decide ((2 : Int) ^ m ≤ u) = g := by rw [← hg, ← hm]; rfl
          obtain ⟨⟨V, t2⟩, e2⟩ : ∃ r, flaM mX t1 g = r := ⟨_, rfl⟩
          have HY : Hid (V = true → rzM mX u 13 0 t = rzM mX u (13 - m) m t2) := fun e => by
            subst e
            rw [hs, rz_yes (by rw [hg]; exact e2), show 13 - m = f by omega, hm]
          have HX : Hid (V = false → rzM mX u 13 0 t = (n, t2)) := fun e => by
            subst e
            rw [hs, rz_no (by rw [hg]; exact e2)]
          have k3 := fla_ok mkX g HK.out
          rw [e2] at k3
          have HK3 : Hid (okS okXm (N + 4 * 14 + 4 * m) t2) := by
            show _
            rw [← hm]
            exact k3
          have U3 := Lib.hid (UF.out (N + 4 * 14 + 4 * n) g t1 G1 wr HO.out HK.out (by omega))
          rw [e2] at U3
          clear hs hf hg e2 k3 HS HK HO
          go_wp2_with fail
          refine (U3.out).mono ?_; rintro e w3 ⟨rfl, G3, h3, g3⟩
          have H3 := Lib.hid h3
          have G3' := Lib.hid (HG.out.trans g3)
          clear h3 g3 HG U3
          cases V
          · have HZ := Lib.hid (HX.out rfl)
            clear HX HY
            obtain ⟨Q, hQ, hQ2⟩ : ∃ Q, 4 * (n + 1) = Q ∧ Q ≤ 56 := ⟨_, rfl, by omega⟩
            have HK4 : Hid (okS okXm (N + 4 * 14 + Q) t2) := by rw [← hQ, hm]; exact HK3.out
            clear HK3 q1 q4 q3 q6 hm hQ
            have HR : Hid (rstM mX u t = rbM mX u n 1 t2) := by
              show _ = _
              unfold rstM
              rw [HZ.out]
            clear HZ
            go_wp2_with fail
            go_loopw [10, 11] (fun cv kv wr => ∃ (k c : Nat) (t3 : Ms Xe) (G : Nat → Prop), k ≤ n ∧ kv = .int .i64 ((k : Int) - 1) ∧ cv = .int .i64 (c : Int) ∧ Hid ((c + 1) * 2 ^ k ≤ 16384) ∧ Hid (rstM mX u t = rbM mX u k c t3) ∧ Hid (okS okXm (N + 4 * 14 + Q + 4 * (n - k)) t3) ∧ Hid ((DwF a) wr G t3) ∧ Hid (Step F w G wr)) (fun _ kv _ => (intOf kv + 1).toNat)
            case atStart =>
              refine ⟨n, 1, t2, G3, Nat.le_refl _, by go_num, rfl, ?_, HR.out, ?_, H3.out, G3'.out⟩
              · show (1 + 1) * 2 ^ n ≤ 16384
                have := Nat.pow_le_pow_right (n := 2) (by decide) hn
                omega
              · rw [Nat.sub_self]; exact HK4.out
            case round =>
              clear HR H3 G3' HK4
              obtain ⟨k, c, t3, G4, hk, rfl, rfl, HC, HS, HK, HO, HG⟩ := hrel
              cases k
              · rw [show ((0 : Nat) : Int) - 1 = -1 from rfl]
                have hs := HS.out
                rw [show rbM mX u 0 c t3 = (c, t3) from rfl] at hs
                have HR : Hid (csM mX (C + 17) z 14 0 s = (13 + c, t3)) := by
                  show _ = _
                  rw [HS0.out, hs]
                have hc2 : c ≤ 16383 := by
                  have := HC.out
                  omega
                have q7 : IntKind.i64.wrap (13 + (c : Int)) = ((13 + c : Nat) : Int) := by rw [IntKind.wrap_i64]; omega
                clear hs HS HC HK HS0
                go_wp2
                go_ret
                exact ⟨by rw [HR.out]; rfl, G4, by rw [HR.out]; exact HO.out, HG.out⟩
              · rename_i k
                rw [show ((k + 1 : Nat) : Int) - 1 = (k : Int) by omega]
                have x2 : (0 : Int) ≤ (k : Int) := by omega
                have hc := HC.out
                have hc2 : c ≤ 16383 := by
                  have := Nat.le_mul_of_pos_right (c + 1) (Nat.pos_of_ne_zero (fun e => by simp at e) : 0 < 2 ^ (k + 1))
                  omega
                obtain ⟨d5, hd⟩ : ∃ d : Nat, 2 * c = d := ⟨_, rfl⟩
                have q5 : IntKind.i64.wrap (2 * (c : Int)) = (d5 : Int) := by rw [IntKind.wrap_i64]; omega
                have q6 : IntKind.i64.wrap ((d5 : Int) + 1) = (d5 : Int) + 1 := by rw [IntKind.wrap_i64]; omega
                have q7 : IntKind.i64.wrap ((k : Int) - 1) = (k : Int) - 1 := by rw [IntKind.wrap_i64]; omega
                have q10 : IntKind.u64.wrap (k : Int) = (k : Int) := wrap_u64n k (by omega)
                obtain ⟨g, hg⟩ : ∃ g, bitAt u k = g := ⟨_, rfl⟩
                have q8 : (u / (2 : Int) ^ k % 2 == 1) = g := by rw [bit_and]; exact hg
                have q9 : Op.shift .shr .i64 u .u64 (k : Int) = pure (.int .i64 (u / (2 : Int) ^ k)) := shr_anyU u k (by omega)
                have qa : Op.intBits .and .i64 (u / (2 : Int) ^ k) 1 = pure (.int .i64 (u / (2 : Int) ^ k % 2)) := and_one _
                obtain ⟨⟨V, t4⟩, e2⟩ : ∃ r, flaM mX t3 g = r := ⟨_, rfl⟩
                have hs := HS.out
                rw [rb_step (b := V) (s1 := t4) (by rw [hg]; exact e2), hd] at hs
                have HS2 := Lib.hid hs
                have k3 := fla_ok mkX g HK.out
                rw [e2] at k3
                have HK5 : Hid (okS okXm (N + 4 * 14 + Q + 4 * (n - k)) t4) := by
                  show _
                  rw [show n - k = (n - (k + 1)) + 1 by omega]
                  exact k3
                have HC2 : Hid ((d5 + 2) * 2 ^ k ≤ 16384) := by
                  show _
                  rw [Nat.pow_succ, Nat.mul_comm (2 ^ k) 2, ← Nat.mul_assoc] at hc
                  rw [← hd, show 2 * c + 2 = (c + 1) * 2 by omega]
                  exact hc
                have U3 := Lib.hid (UF.out (N + 4 * 14 + Q + 4 * (n - (k + 1))) g t3 G4 wr HO.out HK.out (by omega))
                rw [e2] at U3
                clear hs hg e2 k3 HS HK HC hc hd HO
                go_wp2_with fail
                refine (U3.out).mono ?_; rintro e w3 ⟨rfl, G5, h3, g3⟩
                have H3 := Lib.hid h3
                have G3' := Lib.hid (HG.out.trans g3)
                clear h3 g3 HG U3
                cases V
                · go_wp2
                  go_roundw
                  case rel => exact ⟨k, d5, t4, G5, by omega, by go_num, rfl, Nat.le_trans (Nat.mul_le_mul_right _ (by omega)) HC2.out, HS2.out, HK5.out, H3.out, G3'.out⟩
                  case measure => simp [intOf] <;> omega
                · go_wp2
                  go_roundw
                  case rel => exact ⟨k, d5 + 1, t4, G5, by omega, by go_num, by go_num, HC2.out, HS2.out, HK5.out, H3.out, G3'.out⟩
                  case measure => simp [intOf] <;> omega
          · have HS3 := Lib.hid (HY.out rfl)
            clear HX HY
            go_wp2
            go_roundw
            case rel => exact ⟨m, t2, G3, by omega, by go_num, HS3.out, HK3.out, H3.out, G3'.out⟩
            case measure => simp [intOf] <;> omega
        · have x1 : ¬ (n : Int) < 13 := by omega
          have HZ : Hid (rzM mX u 13 0 t = (n, t1)) := by
            have := HS.out
            rw [show 13 - n = 0 by omega] at this
            exact this
          obtain ⟨Q, hQ, hQ2⟩ : ∃ Q, 4 * n = Q ∧ Q ≤ 56 := ⟨_, rfl, by omega⟩
          have HK4 : Hid (okS okXm (N + 4 * 14 + Q) t1) := by rw [← hQ]; exact HK.out
          obtain ⟨t2, ht⟩ : ∃ x, x = t1 := ⟨_, rfl⟩
          subst ht
          obtain ⟨G3, ht⟩ : ∃ x, x = G1 := ⟨_, rfl⟩
          subst ht
          have H3 := HO
          have G3' := HG
          clear hlt hQ HS HK HO HG
          have HR : Hid (rstM mX u t = rbM mX u n 1 t2) := by
            show _ = _
            unfold rstM
            rw [HZ.out]
          clear HZ
          go_wp2_with fail
          go_loopw [10, 11] (fun cv kv wr => ∃ (k c : Nat) (t3 : Ms Xe) (G : Nat → Prop), k ≤ n ∧ kv = .int .i64 ((k : Int) - 1) ∧ cv = .int .i64 (c : Int) ∧ Hid ((c + 1) * 2 ^ k ≤ 16384) ∧ Hid (rstM mX u t = rbM mX u k c t3) ∧ Hid (okS okXm (N + 4 * 14 + Q + 4 * (n - k)) t3) ∧ Hid ((DwF a) wr G t3) ∧ Hid (Step F w G wr)) (fun _ kv _ => (intOf kv + 1).toNat)
          case atStart =>
            refine ⟨n, 1, t2, G3, Nat.le_refl _, by go_num, rfl, ?_, HR.out, ?_, H3.out, G3'.out⟩
            · show (1 + 1) * 2 ^ n ≤ 16384
              have := Nat.pow_le_pow_right (n := 2) (by decide) hn
              omega
            · rw [Nat.sub_self]; exact HK4.out
          case round =>
            clear HR H3 G3' HK4
            obtain ⟨k, c, t3, G4, hk, rfl, rfl, HC, HS, HK, HO, HG⟩ := hrel
            cases k
            · rw [show ((0 : Nat) : Int) - 1 = -1 from rfl]
              have hs := HS.out
              rw [show rbM mX u 0 c t3 = (c, t3) from rfl] at hs
              have HR : Hid (csM mX (C + 17) z 14 0 s = (13 + c, t3)) := by
                show _ = _
                rw [HS0.out, hs]
              have hc2 : c ≤ 16383 := by
                have := HC.out
                omega
              have q7 : IntKind.i64.wrap (13 + (c : Int)) = ((13 + c : Nat) : Int) := by rw [IntKind.wrap_i64]; omega
              clear hs HS HC HK HS0
              go_wp2
              go_ret
              exact ⟨by rw [HR.out]; rfl, G4, by rw [HR.out]; exact HO.out, HG.out⟩
            · rename_i k
              rw [show ((k + 1 : Nat) : Int) - 1 = (k : Int) by omega]
              have x2 : (0 : Int) ≤ (k : Int) := by omega
              have hc := HC.out
              have hc2 : c ≤ 16383 := by
                have := Nat.le_mul_of_pos_right (c + 1) (Nat.pos_of_ne_zero (fun e => by simp at e) : 0 < 2 ^ (k + 1))
                omega
              obtain ⟨d5, hd⟩ : ∃ d : Nat, 2 * c = d := ⟨_, rfl⟩
              have q5 : IntKind.i64.wrap (2 * (c : Int)) = (d5 : Int) := by rw [IntKind.wrap_i64]; omega
              have q6 : IntKind.i64.wrap ((d5 : Int) + 1) = (d5 : Int) + 1 := by rw [IntKind.wrap_i64]; omega
              have q7 : IntKind.i64.wrap ((k : Int) - 1) = (k : Int) - 1 := by rw [IntKind.wrap_i64]; omega
              have q10 : IntKind.u64.wrap (k : Int) = (k : Int) := wrap_u64n k (by omega)
              obtain ⟨g, hg⟩ : ∃ g, bitAt u k = g := ⟨_, rfl⟩
              have q8 : (u / (2 : Int) ^ k % 2 == 1) = g := by rw [bit_and]; exact hg
              have q9 : Op.shift .shr .i64 u .u64 (k : Int) = pure (.int .i64 (u / (2 : Int) ^ k)) := shr_anyU u k (by omega)
              have qa : Op.intBits .and .i64 (u / (2 : Int) ^ k) 1 = pure (.int .i64 (u / (2 : Int) ^ k % 2)) := and_one _
              obtain ⟨⟨V, t4⟩, e2⟩ : ∃ r, flaM mX t3 g = r := ⟨_, rfl⟩
              have hs := HS.out
              rw [rb_step (b := V) (s1 := t4) (by rw [hg]; exact e2), hd] at hs
              have HS2 := Lib.hid hs
              have k3 := fla_ok mkX g HK.out
              rw [e2] at k3
              have HK5 : Hid (okS okXm (N + 4 * 14 + Q + 4 * (n - k)) t4) := by
                show _
                rw [show n - k = (n - (k + 1)) + 1 by omega]
                exact k3
              have HC2 : Hid ((d5 + 2) * 2 ^ k ≤ 16384) := by
                show _
                rw [Nat.pow_succ, Nat.mul_comm (2 ^ k) 2, ← Nat.mul_assoc] at hc
                rw [← hd, show 2 * c + 2 = (c + 1) * 2 by omega]
                exact hc
              have U3 := Lib.hid (UF.out (N + 4 * 14 + Q + 4 * (n - (k + 1))) g t3 G4 wr HO.out HK.out (by omega))
              rw [e2] at U3
              clear hs hg e2 k3 HS HK HC hc hd HO
              go_wp2_with fail
              refine (U3.out).mono ?_; rintro e w3 ⟨rfl, G5, h3, g3⟩
              have H3 := Lib.hid h3
              have G3' := Lib.hid (HG.out.trans g3)
              clear h3 g3 HG U3
              cases V
              · go_wp2
                go_roundw
                case rel => exact ⟨k, d5, t4, G5, by omega, by go_num, rfl, Nat.le_trans (Nat.mul_le_mul_right _ (by omega)) HC2.out, HS2.out, HK5.out, H3.out, G3'.out⟩
                case measure => simp [intOf] <;> omega
              · go_wp2
                go_roundw
                case rel => exact ⟨k, d5 + 1, t4, G5, by omega, by go_num, by go_num, HC2.out, HS2.out, HK5.out, H3.out, G3'.out⟩
                case measure => simp [intOf] <;> omega
set_option maxRecDepth 20000 in
set_option maxHeartbeats 1000000 in
theorem rest_any (l o : Value) (xs : List Int) (od : List Nat) (m i : Nat) (him : i ≤ m) (hm8 : m ≤ 64) (w : World) (hl : Ints w l xs) (ho : Ints w o (od.map fun (x : Nat) => (x : Int))) (hm : od.length = m + 1) (hi : ∀ i ∈ od, i < xs.length) : Calls Tryz.prog 78 #[l, o, .int .i64 ((i : Int) + 1)] w fun e w' => e = .returned (.bool (decide (lastP xs od m ≤ i))) ∧ w' = w := by
  have hx0 : 0 < xs.length := by
    cases od with
    | nil => simp at hm
    | cons x y => have := hi x (by simp); omega
  have hol : (od.map fun (x : Nat) => (x : Int)).length = m + 1 := by rw [List.length_map]; exact hm
  obtain ⟨g, off, cap, rfl, c1, c2⟩ := hl.addr hx0
  obtain ⟨g', off', cap', rfl, c3, c4⟩ := ho.addr (by omega)
  rw [hol] at c3 ho ⊢
  have UL := Lib.hid (fun j x (h : xs[j]? = some x) => hl.at h)
  have UO := Lib.hid (fun j x (h : (od.map fun (x : Nat) => (x : Int))[j]? = some x) => ho.at h)
  obtain ⟨n, hnn⟩ : ∃ n, xs.length = n := ⟨_, rfl⟩
  rw [hnn] at c1 ⊢
  have HI := Lib.hid hi
  have HNN := Lib.hid hnn
  have HM := Lib.hid hm
  clear hl ho hi hx0 hol hnn hm
  go_enter Tryz.func78, Tryz.ntmps78
  go_wp2_with fail
  go_loopw [7] (fun iv wr => ∃ k : Nat, i + 1 ≤ k ∧ k ≤ m + 1 ∧ iv = .int .i64 (k : Int) ∧ Hid (∀ j, i < j → j < k → xs.getD (od.getD j 0) 0 = 0) ∧ wr = w) (fun iv _ => m + 1 - (intOf iv).toNat)
  case atStart => exact ⟨i + 1, Nat.le_refl _, by omega, by go_num, fun j h1 h2 => by omega, rfl⟩
  case round =>
    obtain ⟨k, hk1, hk2, rfl, HZ, rfl⟩ := hrel
    by_cases hlt : k < m + 1
    · obtain ⟨d, hd⟩ : ∃ d, od[k]? = some d := ⟨_, List.getElem?_eq_getElem (by rw [HM.out]; exact hlt)⟩
      have hdn : d < n := by rw [← HNN.out]; exact HI.out d (List.mem_of_getElem? hd)
      obtain ⟨x, hx⟩ : ∃ x, xs[d]? = some x := ⟨_, List.getElem?_eq_getElem (by rw [HNN.out]; exact hdn)⟩
      have c5 := UO.out k (d : Int) (by rw [List.getElem?_map, hd]; rfl)
      have c6 := UL.out d x hx
      have hg : xs.getD (od.getD k 0) 0 = x := by
        rw [show od.getD k 0 = d by rw [List.getD_eq_getElem?_getD, hd]; rfl, List.getD_eq_getElem?_getD, hx]; rfl
      have x1 : (0 : Int) ≤ (k : Int) := by omega
      have x2 : (k : Int) < ((m + 1 : Nat) : Int) := by omega
      have x3 : (0 : Int) ≤ (d : Int) := by omega
      have x4 : (d : Int) < (n : Int) := by omega
      have HGX := Lib.hid hg
      by_cases hxz : x = 0
      · subst hxz
        clear hd hx hdn hg
        go_wp2
        go_roundw
        case rel => exact ⟨k + 1, by omega, by omega, by go_num, fun j h1 h2 => by
                      by_cases e : j = k
                      · rw [e]; exact HGX.out
                      · exact HZ.out j h1 (by omega), by first | rfl | trivial⟩
        case measure => simp [intOf] <;> omega
      · have HR : Hid (decide (lastP xs od m ≤ i) = false) := by
          show _ = _
          rw [decide_eq_false_iff_not]
          intro h
          have := lastP_z xs od m k (by omega) (by omega)
          rw [hg] at this
          exact hxz this
        have x6 : (x != 0) = true := bne_iff_ne.2 hxz
        clear hd hx hdn hg
        go_wp2
        go_ret
        exact ⟨by rw [HR.out]; rfl, rfl⟩
    · have x2 : ¬ (k : Int) < ((m + 1 : Nat) : Int) := by omega
      have HR : Hid (decide (lastP xs od m ≤ i) = true) := by
        show _ = _
        rw [decide_eq_true_iff]
        refine Nat.le_of_not_lt (fun h => ?_)
        have h1 := lastP_pos xs od m (by omega)
        have h2 := lastP_le xs od m
        exact h1 (HZ.out _ h (by omega))
      go_wp2
      go_ret
      exact ⟨by rw [HR.out]; rfl, rfl⟩
end Go.Proofs.YtpofabebmeickaaGreatDoor

/- kinref7.Order: its contract over this seat's translation. -/
namespace Go.Proofs.YtpofabebmeickaaGreatDoor
set_option linter.unusedVariables false
set_option linter.unusedSimpArgs false
open Go.RowKit Go.Extern.Stop Go.Stop Go.Extern

theorem zigRow_len (n s k : Nat) : (zigRow n s k).length ≤ k := by
  unfold zigRow
  rw [List.length_map]
  have := List.length_filter_le (fun i => decide (zigY s i < n ∧ s - zigY s i < n)) (List.range k)
  rw [List.length_range] at this
  exact this
set_option maxHeartbeats 8000000 in
set_option maxRecDepth 20000 in
theorem rordown_4 (w : World) : Calls Tryz.prog 74 #[.int .i64 4] w fun e w' => ∃ u, e = .returned u ∧ Ext w w' ∧ w'.ownsRow w.heap.size 3 1 u (zigPre 4 7).length (natC (zigPre 4 7)) := by
  go_enter Tryz.func74, Tryz.ntmps74
  go_wp2
  go_loopw [3, 4] (fun v sv wr => ∃ s : Nat, s ≤ 7 ∧ sv = .int .i64 s ∧ Hid (wr.ownsRow w.heap.size 3 1 v (zigPre 4 s).length (natC (zigPre 4 s))) ∧ Ext w wr) (fun _ sv _ => 7 - (intOf sv).toNat)
  case atStart => exact ⟨0, Nat.zero_le _, rfl, World.ownsRow_nil _ _ _ _, Ext.refl _⟩
  case round =>
    obtain ⟨s, hs, rfl, HO, hE⟩ := hrel
    by_cases hlt : s < 7
    · have q1 := (zigPre_len4 s hlt).1
      have t1 : decide ((s : Int) ≤ 6) = true := decide_eq_true (by omega)
      go_wp2
      go_loopw [3, 5] (fun v iv wr => ∃ i : Nat, i ≤ s + 1 ∧ iv = .int .i64 i ∧ Hid (wr.ownsRow w.heap.size 3 1 v (zigPre 4 s ++ zigRow 4 s i).length (natC (zigPre 4 s ++ zigRow 4 s i))) ∧ Ext w wr) (fun _ iv _ => s + 1 - (intOf iv).toNat)
      case atStart => exact ⟨0, Nat.zero_le _, rfl, by
        show World.ownsRow _ _ _ _ _ _ _
        rw [show zigRow 4 s 0 = [] from rfl, List.append_nil]
        exact HO.out, hE⟩
      case round =>
        clear HO hE
        obtain ⟨i, hi, rfl, HO, hE⟩ := hrel
        have hB := hE.size
        have hrl := zigRow_len 4 s i
        have hll : (zigPre 4 s ++ zigRow 4 s i).length ≤ 1000 := by rw [List.length_append]; omega
        by_cases hik : i ≤ s
        · by_cases hp : s % 2 = 0
          · have b2 : ((s : Int) % 2 == 0) = true := by simp; omega
            have hy : zigY s i = s - i := by unfold zigY; rw [if_pos hp]
            by_cases c1 : s - i < 4
            · by_cases c2 : i < 4
              · have HS : Hid (zigRow 4 s (i + 1) = zigRow 4 s i ++ [(s - i) * 4 + s - (s - i)]) := by show _ = _; rw [zigRow_succ, hy, if_pos (by omega)]
                have HA : Hid ((((s - i) * 4 + s - (s - i) : Nat) : Int) = ((s : Int) - i) * 4 + s - (s - i)) := by show _ = _; omega
                have t2 : decide ((s : Int) - i < 4) = true := decide_eq_true (by omega)
                have t3 : decide ((s : Int) - (s - i) < 4) = true := decide_eq_true (by omega)
                clear hp hy
                go_wp2_with (at_builtin; refine push_int rfl _ _ 33 rfl Tryz.underlying33 _ _ _ _ rfl HO.out (by show Value.slice (some ⟨wr.heap.size, 0, none⟩) 1 1 = _; simp) hB (by omega) ?_; intro v' w7 h1 h2)
                have HO7 := Lib.hid h1
                have hE7 := hE.of_below h2 (Nat.le_refl _)
                clear h1 h2 HO hE
                go_wp2
                go_roundw
                case rel => exact ⟨i + 1, by omega, by go_num, by
                  show World.ownsRow _ _ _ _ _ _ _
                  rw [HS.out, ← List.append_assoc, natC_append (_ ++ _), List.length_append]
                  have h : World.ownsRow _ _ _ _ _ _ _ := HO7.out
                  rw [← HA.out] at h
                  exact h, hE7⟩
                case measure => simp [intOf]; omega
              · have HS : Hid (zigRow 4 s (i + 1) = zigRow 4 s i) := by show _ = _; rw [zigRow_succ, hy, if_neg (by omega), List.append_nil]
                have t2 : decide ((s : Int) - i < 4) = true := decide_eq_true (by omega)
                have t3 : decide ((s : Int) - (s - i) < 4) = false := decide_eq_false (by omega)
                clear hp hy
                go_wp2
                go_roundw
                case rel => exact ⟨i + 1, by omega, by go_num, by
                  show World.ownsRow _ _ _ _ _ _ _
                  rw [HS.out]
                  exact HO.out, hE⟩
                case measure => simp [intOf]; omega
            · have HS : Hid (zigRow 4 s (i + 1) = zigRow 4 s i) := by show _ = _; rw [zigRow_succ, hy, if_neg (by omega), List.append_nil]
              have t2 : decide ((s : Int) - i < 4) = false := decide_eq_false (by omega)
              clear hp hy
              go_wp2
              go_roundw
              case rel => exact ⟨i + 1, by omega, by go_num, by
                show World.ownsRow _ _ _ _ _ _ _
                rw [HS.out]
                exact HO.out, hE⟩
              case measure => simp [intOf]; omega
          · have b2 : ((s : Int) % 2 == 0) = false := by simp; omega
            have hy : zigY s i = i := by unfold zigY; rw [if_neg hp]
            by_cases c1 : i < 4
            · by_cases c2 : s - i < 4
              · have HS : Hid (zigRow 4 s (i + 1) = zigRow 4 s i ++ [i * 4 + s - i]) := by show _ = _; rw [zigRow_succ, hy, if_pos (by omega)]
                have HA : Hid (((i * 4 + s - i : Nat) : Int) = (i : Int) * 4 + s - i) := by show _ = _; omega
                have t2 : decide ((i : Int) < 4) = true := decide_eq_true (by omega)
                have t3 : decide ((s : Int) - i < 4) = true := decide_eq_true (by omega)
                clear hp hy
                go_wp2_with (at_builtin; refine push_int rfl _ _ 33 rfl Tryz.underlying33 _ _ _ _ rfl HO.out (by show Value.slice (some ⟨wr.heap.size, 0, none⟩) 1 1 = _; simp) hB (by omega) ?_; intro v' w7 h1 h2)
                have HO7 := Lib.hid h1
                have hE7 := hE.of_below h2 (Nat.le_refl _)
                clear h1 h2 HO hE
                go_wp2
                go_roundw
                case rel => exact ⟨i + 1, by omega, by go_num, by
                  show World.ownsRow _ _ _ _ _ _ _
                  rw [HS.out, ← List.append_assoc, natC_append (_ ++ _), List.length_append]
                  have h : World.ownsRow _ _ _ _ _ _ _ := HO7.out
                  rw [← HA.out] at h
                  exact h, hE7⟩
                case measure => simp [intOf]; omega
              · have HS : Hid (zigRow 4 s (i + 1) = zigRow 4 s i) := by show _ = _; rw [zigRow_succ, hy, if_neg (by omega), List.append_nil]
                have t2 : decide ((i : Int) < 4) = true := decide_eq_true (by omega)
                have t3 : decide ((s : Int) - i < 4) = false := decide_eq_false (by omega)
                clear hp hy
                go_wp2
                go_roundw
                case rel => exact ⟨i + 1, by omega, by go_num, by
                  show World.ownsRow _ _ _ _ _ _ _
                  rw [HS.out]
                  exact HO.out, hE⟩
                case measure => simp [intOf]; omega
            · have HS : Hid (zigRow 4 s (i + 1) = zigRow 4 s i) := by show _ = _; rw [zigRow_succ, hy, if_neg (by omega), List.append_nil]
              have t2 : decide ((i : Int) < 4) = false := decide_eq_false (by omega)
              clear hp hy
              go_wp2
              go_roundw
              case rel => exact ⟨i + 1, by omega, by go_num, by
                show World.ownsRow _ _ _ _ _ _ _
                rw [HS.out]
                exact HO.out, hE⟩
              case measure => simp [intOf]; omega
        · obtain rfl : i = s + 1 := by omega
          have e : zigPre 4 (s + 1) = zigPre 4 s ++ zigRow 4 s (s + 1) := by rw [zigPre_succ, zig_same4 s hlt]
          have HE : Hid (zigPre 4 s ++ zigRow 4 s (s + 1) = zigPre 4 (s + 1)) := e.symm
          clear e
          go_wp2
          go_roundw
          case rel => exact ⟨s + 1, by omega, by go_num, by
            show World.ownsRow _ _ _ _ _ _ _
            rw [← HE.out]
            exact HO.out, hE⟩
          case measure => simp [intOf]; omega
    · obtain rfl : s = 7 := by omega
      go_wp2
      go_ret
      exact ⟨_, rfl, hE, HO.out⟩
set_option maxHeartbeats 8000000 in
set_option maxRecDepth 20000 in
theorem rordown_8 (w : World) : Calls Tryz.prog 74 #[.int .i64 8] w fun e w' => ∃ u, e = .returned u ∧ Ext w w' ∧ w'.ownsRow w.heap.size 3 1 u (zigPre 8 15).length (natC (zigPre 8 15)) := by
  go_enter Tryz.func74, Tryz.ntmps74
  go_wp2
  go_loopw [3, 4] (fun v sv wr => ∃ s : Nat, s ≤ 15 ∧ sv = .int .i64 s ∧ Hid (wr.ownsRow w.heap.size 3 1 v (zigPre 8 s).length (natC (zigPre 8 s))) ∧ Ext w wr) (fun _ sv _ => 15 - (intOf sv).toNat)
  case atStart => exact ⟨0, Nat.zero_le _, rfl, World.ownsRow_nil _ _ _ _, Ext.refl _⟩
  case round =>
    obtain ⟨s, hs, rfl, HO, hE⟩ := hrel
    by_cases hlt : s < 15
    · have q1 := (zigPre_len8 s hlt).1
      have t1 : decide ((s : Int) ≤ 14) = true := decide_eq_true (by omega)
      go_wp2
      go_loopw [3, 5] (fun v iv wr => ∃ i : Nat, i ≤ s + 1 ∧ iv = .int .i64 i ∧ Hid (wr.ownsRow w.heap.size 3 1 v (zigPre 8 s ++ zigRow 8 s i).length (natC (zigPre 8 s ++ zigRow 8 s i))) ∧ Ext w wr) (fun _ iv _ => s + 1 - (intOf iv).toNat)
      case atStart => exact ⟨0, Nat.zero_le _, rfl, by
        show World.ownsRow _ _ _ _ _ _ _
        rw [show zigRow 8 s 0 = [] from rfl, List.append_nil]
        exact HO.out, hE⟩
      case round =>
        clear HO hE
        obtain ⟨i, hi, rfl, HO, hE⟩ := hrel
        have hB := hE.size
        have hrl := zigRow_len 8 s i
        have hll : (zigPre 8 s ++ zigRow 8 s i).length ≤ 1000 := by rw [List.length_append]; omega
        by_cases hik : i ≤ s
        · by_cases hp : s % 2 = 0
          · have b2 : ((s : Int) % 2 == 0) = true := by simp; omega
            have hy : zigY s i = s - i := by unfold zigY; rw [if_pos hp]
            by_cases c1 : s - i < 8
            · by_cases c2 : i < 8
              · have HS : Hid (zigRow 8 s (i + 1) = zigRow 8 s i ++ [(s - i) * 8 + s - (s - i)]) := by show _ = _; rw [zigRow_succ, hy, if_pos (by omega)]
                have HA : Hid ((((s - i) * 8 + s - (s - i) : Nat) : Int) = ((s : Int) - i) * 8 + s - (s - i)) := by show _ = _; omega
                have t2 : decide ((s : Int) - i < 8) = true := decide_eq_true (by omega)
                have t3 : decide ((s : Int) - (s - i) < 8) = true := decide_eq_true (by omega)
                clear hp hy
                go_wp2_with (at_builtin; refine push_int rfl _ _ 33 rfl Tryz.underlying33 _ _ _ _ rfl HO.out (by show Value.slice (some ⟨wr.heap.size, 0, none⟩) 1 1 = _; simp) hB (by omega) ?_; intro v' w7 h1 h2)
                have HO7 := Lib.hid h1
                have hE7 := hE.of_below h2 (Nat.le_refl _)
                clear h1 h2 HO hE
                go_wp2
                go_roundw
                case rel => exact ⟨i + 1, by omega, by go_num, by
                  show World.ownsRow _ _ _ _ _ _ _
                  rw [HS.out, ← List.append_assoc, natC_append (_ ++ _), List.length_append]
                  have h : World.ownsRow _ _ _ _ _ _ _ := HO7.out
                  rw [← HA.out] at h
                  exact h, hE7⟩
                case measure => simp [intOf]; omega
              · have HS : Hid (zigRow 8 s (i + 1) = zigRow 8 s i) := by show _ = _; rw [zigRow_succ, hy, if_neg (by omega), List.append_nil]
                have t2 : decide ((s : Int) - i < 8) = true := decide_eq_true (by omega)
                have t3 : decide ((s : Int) - (s - i) < 8) = false := decide_eq_false (by omega)
                clear hp hy
                go_wp2
                go_roundw
                case rel => exact ⟨i + 1, by omega, by go_num, by
                  show World.ownsRow _ _ _ _ _ _ _
                  rw [HS.out]
                  exact HO.out, hE⟩
                case measure => simp [intOf]; omega
            · have HS : Hid (zigRow 8 s (i + 1) = zigRow 8 s i) := by show _ = _; rw [zigRow_succ, hy, if_neg (by omega), List.append_nil]
              have t2 : decide ((s : Int) - i < 8) = false := decide_eq_false (by omega)
              clear hp hy
              go_wp2
              go_roundw
              case rel => exact ⟨i + 1, by omega, by go_num, by
                show World.ownsRow _ _ _ _ _ _ _
                rw [HS.out]
                exact HO.out, hE⟩
              case measure => simp [intOf]; omega
          · have b2 : ((s : Int) % 2 == 0) = false := by simp; omega
            have hy : zigY s i = i := by unfold zigY; rw [if_neg hp]
            by_cases c1 : i < 8
            · by_cases c2 : s - i < 8
              · have HS : Hid (zigRow 8 s (i + 1) = zigRow 8 s i ++ [i * 8 + s - i]) := by show _ = _; rw [zigRow_succ, hy, if_pos (by omega)]
                have HA : Hid (((i * 8 + s - i : Nat) : Int) = (i : Int) * 8 + s - i) := by show _ = _; omega
                have t2 : decide ((i : Int) < 8) = true := decide_eq_true (by omega)
                have t3 : decide ((s : Int) - i < 8) = true := decide_eq_true (by omega)
                clear hp hy
                go_wp2_with (at_builtin; refine push_int rfl _ _ 33 rfl Tryz.underlying33 _ _ _ _ rfl HO.out (by show Value.slice (some ⟨wr.heap.size, 0, none⟩) 1 1 = _; simp) hB (by omega) ?_; intro v' w7 h1 h2)
                have HO7 := Lib.hid h1
                have hE7 := hE.of_below h2 (Nat.le_refl _)
                clear h1 h2 HO hE
                go_wp2
                go_roundw
                case rel => exact ⟨i + 1, by omega, by go_num, by
                  show World.ownsRow _ _ _ _ _ _ _
                  rw [HS.out, ← List.append_assoc, natC_append (_ ++ _), List.length_append]
                  have h : World.ownsRow _ _ _ _ _ _ _ := HO7.out
                  rw [← HA.out] at h
                  exact h, hE7⟩
                case measure => simp [intOf]; omega
              · have HS : Hid (zigRow 8 s (i + 1) = zigRow 8 s i) := by show _ = _; rw [zigRow_succ, hy, if_neg (by omega), List.append_nil]
                have t2 : decide ((i : Int) < 8) = true := decide_eq_true (by omega)
                have t3 : decide ((s : Int) - i < 8) = false := decide_eq_false (by omega)
                clear hp hy
                go_wp2
                go_roundw
                case rel => exact ⟨i + 1, by omega, by go_num, by
                  show World.ownsRow _ _ _ _ _ _ _
                  rw [HS.out]
                  exact HO.out, hE⟩
                case measure => simp [intOf]; omega
            · have HS : Hid (zigRow 8 s (i + 1) = zigRow 8 s i) := by show _ = _; rw [zigRow_succ, hy, if_neg (by omega), List.append_nil]
              have t2 : decide ((i : Int) < 8) = false := decide_eq_false (by omega)
              clear hp hy
              go_wp2
              go_roundw
              case rel => exact ⟨i + 1, by omega, by go_num, by
                show World.ownsRow _ _ _ _ _ _ _
                rw [HS.out]
                exact HO.out, hE⟩
              case measure => simp [intOf]; omega
        · obtain rfl : i = s + 1 := by omega
          have e : zigPre 8 (s + 1) = zigPre 8 s ++ zigRow 8 s (s + 1) := by rw [zigPre_succ, zig_same8 s hlt]
          have HE : Hid (zigPre 8 s ++ zigRow 8 s (s + 1) = zigPre 8 (s + 1)) := e.symm
          clear e
          go_wp2
          go_roundw
          case rel => exact ⟨s + 1, by omega, by go_num, by
            show World.ownsRow _ _ _ _ _ _ _
            rw [← HE.out]
            exact HO.out, hE⟩
          case measure => simp [intOf]; omega
    · obtain rfl : s = 15 := by omega
      go_wp2
      go_ret
      exact ⟨_, rfl, hE, HO.out⟩
end Go.Proofs.YtpofabebmeickaaGreatDoor

