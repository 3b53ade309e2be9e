/- Contracts of this seat: Suv, Suw. -/
import Derived.Test.YtgohlhgapboijaaGreatDoorZp
import Derived.Test.YtgohlhgapboijaaGreatDoorZn
import Derived.Test.YtgohlhgapboijaaGreatDoorZl
/- Decoding a video (plain); source.checkHead, source.readEnd. -/
namespace Go.Proofs.YtgohlhgapboijaaGreatDoor
set_option linter.unusedVariables false
set_option linter.unusedSimpArgs false
open Go.RowKit Go.Extern.Stop Go.Stop Go.Extern

/-- what is wrong with the head -/
def hdC (bs : List Nat) : Int :=
  if bs.length < 5 then 1 else if ¬ (bs.getD 0 0 = 75 ∧ bs.getD 1 0 = 83) then 2
  else if ¬ ((1 ≤ bs.getD 2 0 ∧ bs.getD 2 0 ≤ 4) ∧ (1 ≤ bs.getD 3 0 ∧ bs.getD 3 0 ≤ 4) ∧ (1 ≤ bs.getD 4 0 ∧ bs.getD 4 0 ≤ 16)) then 3 else 0
/-- an error, wrapped once more -/
def inF (i : Int) : Fall → Fall
  | none => none
  | some (p, c) => some ((sourceS, i) :: p, c)
/-- f more frames -/
def dcL (bs : List Nat) (W H : Nat) : Nat → List Fr → Nat → Fall × List Fr × Nat
  | 0, L, p => (none, L, p)
  | f + 1, L, p =>
    if (rdFr bs W H p).1 = none then dcL bs W H f (L ++ [((W : Int), (H : Int), (rdFr bs W H p).2.1)]) (rdFr bs W H p).2.2
    else (inF (L.length : Int) (rdFr bs W H p).1, [], (rdFr bs W H p).2.2)
/-- the end: less than a byte, of zeros -/
def endF (bs : List Nat) (p : Nat) : Fall := if alF bs p (alD p) = none then (if p + alD p < 8 * bs.length then some ([], 5) else none) else alF bs p (alD p)
def dcE (bs : List Nat) (n : Nat) (R : Fall × List Fr × Nat) : Fall × List Fr :=
  if R.1 = none then (if endF bs R.2.2 = none then (none, R.2.1) else (inF (n : Int) (endF bs R.2.2), [])) else (R.1, [])
/-- a video, read -/
def dcR (bs : List Nat) : Fall × List Fr :=
  if hdC bs = 0 then dcE (bs.drop 5) (bs.getD 4 0) (dcL (bs.drop 5) (8 * bs.getD 2 0) (8 * bs.getD 3 0) (bs.getD 4 0) [] 0) else (some ([(sourceS, -1)], hdC bs), [])
theorem dcL_len {bs : List Nat} {W H : Nat} : ∀ {f : Nat} {L : List Fr} {p : Nat}, (dcL bs W H f L p).1 = none → (dcL bs W H f L p).2.1.length = L.length + f
  | 0, _, _, _ => rfl
  | f + 1, L, p, h => by
    simp only [dcL] at h ⊢
    split at h
    · rename_i h1
      rw [if_pos h1, dcL_len h, List.length_append]
      simp only [List.length_cons, List.length_nil]
      omega
    · rename_i h1
      exfalso
      cases hf : (rdFr bs W H p).1 with
      | none => exact h1 hf
      | some a => rw [hf] at h; cases h
theorem rdFr_le {bs : List Nat} {W H p : Nat} (h : p ≤ 8 * bs.length) : (rdFr bs W H p).2.2 ≤ 8 * bs.length := by
  have h3 := rdP_le (n := 3) h
  unfold rdFr
  split
  · exact rdS_le h3
  · exact h3
theorem dcL_le {bs : List Nat} {W H : Nat} : ∀ {f : Nat} {L : List Fr} {p : Nat}, p ≤ 8 * bs.length → (dcL bs W H f L p).2.2 ≤ 8 * bs.length
  | 0, _, _, h => h
  | f + 1, L, p, h => by
    simp only [dcL]
    split
    · exact dcL_le (rdFr_le h)
    · exact rdFr_le h
theorem inF_is {w : World} {f : Fall} {a : List (ByteArray × Int) × Int} (i : Int) {x : Value} (hf : f = some a) (h : IsErr w ((sourceS, i) :: a.1) a.2 x) (hc : a.2 ≠ 0) (hl : a.1.length + 1 ≤ 1000000) : ErrIs w (inF i f) x := by
  subst hf
  obtain ⟨p, c⟩ := a
  exact ⟨h, hc, by simpa using hl⟩
/-- an error of these codes, wrapped at most once -/
def cds (f : Fall) : Prop := ∀ p c, f = some (p, c) → (c = 1 ∨ c = 2 ∨ c = 3 ∨ c = 5) ∧ p.length ≤ 1
theorem cds_none : cds none := fun _ _ h => by cases h
theorem cds_some {p : List (ByteArray × Int)} {c : Int} (hc : c = 1 ∨ c = 2 ∨ c = 3 ∨ c = 5) (hp : p.length ≤ 1) : cds (some (p, c)) := fun q d h => by
  simp only [Option.some.injEq, Prod.mk.injEq] at h
  obtain ⟨rfl, rfl⟩ := h
  exact ⟨hc, hp⟩
theorem cds_range : cds range := cds_some (by decide) (by decide)
theorem rdF_cds (bs : List Nat) (p : Nat) (n : Int) : cds (rdF bs p n) := by
  unfold rdF
  split
  · split
    · exact cds_none
    · exact cds_some (by decide) (by simp)
  · exact cds_range
theorem riQ_cds {bs : List Nat} : ∀ {f q p : Nat}, cds (riQ bs f q p).1
  | 0, _, _ => cds_none
  | f + 1, q, p => by
    simp only [riQ]
    split
    · exact cds_some (by decide) (by simp)
    · split
      · exact riQ_cds
      · exact cds_none
theorem riZ_cds {bs : List Nat} {k q p : Nat} {most : Int} : cds (riZ bs k most q p).1 := by
  unfold riZ
  split
  · split
    · exact cds_some (by decide) (by simp)
    · exact cds_none
  · exact cds_some (by decide) (by simp)
theorem rgG_cds (bs : List Nat) (p : Nat) (k most : Int) : cds (rgG bs p k most).1 := by
  unfold rgG
  split
  · have h := riQ_cds (bs := bs) (f := 24) (q := 0) (p := p)
    generalize riQ bs 24 0 p = R at h
    obtain ⟨a, b, c⟩ := R
    cases a with
    | none => exact riZ_cds
    | some a => exact h
  · exact cds_range
theorem rdS_cds {bs : List Nat} {k : Int} {W : Nat} : ∀ {f : Nat} {zs : List Int} {p : Nat}, cds (rdS bs k W f zs p).1
  | 0, _, _ => cds_none
  | f + 1, zs, p => by
    simp only [rdS]
    split
    · split
      · exact rdS_cds
      · exact cds_some (by decide) (by simp)
    · exact rgG_cds _ _ _ _
theorem rdFr_cds (bs : List Nat) (W H p : Nat) : cds (rdFr bs W H p).1 := by
  unfold rdFr
  split
  · exact rdS_cds
  · exact rdF_cds bs p 3
theorem alF_cds (bs : List Nat) (p : Nat) : ∀ k, cds (alF bs p k)
  | 0 => cds_none
  | k + 1 => by
    have ih := alF_cds bs p k
    simp only [alF]
    split
    · rename_i f hf
      rw [hf] at ih
      exact ih
    · split
      · exact cds_some (by decide) (by simp)
      · exact cds_none
theorem endF_cds (bs : List Nat) (p : Nat) : cds (endF bs p) := by
  unfold endF
  split
  · split
    · exact cds_some (by decide) (by simp)
    · exact cds_none
  · exact alF_cds _ _ _
/-- an error of the chapter's, source its first step -/
def dcOk (f : Fall) : Prop := ∀ p c, f = some (p, c) → ∃ i t, p = (sourceS, i) :: t ∧ (-1 ≤ i ∧ i ≤ 16) ∧ (c = 1 ∨ c = 2 ∨ c = 3 ∨ c = 5) ∧ t.length ≤ 1
theorem inF_ok {f : Fall} {i : Int} (h : cds f) (hi : -1 ≤ i ∧ i ≤ 16) : dcOk (inF i f) := by
  cases f with
  | none => exact fun _ _ h => by cases h
  | some a =>
    obtain ⟨p, c⟩ := a
    intro q d e
    simp only [inF, Option.some.injEq, Prod.mk.injEq] at e
    obtain ⟨rfl, rfl⟩ := e
    exact ⟨i, p, rfl, hi, h p c rfl⟩
theorem dcL_ok {bs : List Nat} {W H : Nat} : ∀ {f : Nat} {L : List Fr} {p : Nat}, L.length + f ≤ 16 → dcOk (dcL bs W H f L p).1
  | 0, _, _, _ => fun _ _ h => by cases h
  | f + 1, L, p, h => by
    simp only [dcL]
    split
    · exact dcL_ok (by rw [List.length_append]; simp only [List.length_cons, List.length_nil]; omega)
    · exact inF_ok (rdFr_cds _ _ _ _) (by omega)
theorem hdC_zero {bs : List Nat} (h : hdC bs = 0) : 5 ≤ bs.length ∧ bs.getD 0 0 = 75 ∧ bs.getD 1 0 = 83 ∧ (1 ≤ bs.getD 2 0 ∧ bs.getD 2 0 ≤ 4) ∧ (1 ≤ bs.getD 3 0 ∧ bs.getD 3 0 ≤ 4) ∧ (1 ≤ bs.getD 4 0 ∧ bs.getD 4 0 ≤ 16) := by
  unfold hdC at h
  split at h
  · omega
  · split at h
    · omega
    · split at h
      · omega
      · rename_i h1 h2 h3
        have h2 := Decidable.not_not.1 h2
        have h3 := Decidable.not_not.1 h3
        exact ⟨by omega, h2.1, h2.2, h3⟩
theorem hdC_code (bs : List Nat) (h : hdC bs ≠ 0) : hdC bs = 1 ∨ hdC bs = 2 ∨ hdC bs = 3 := by
  unfold hdC at h ⊢
  split
  · exact .inl rfl
  · split
    · exact .inr (.inl rfl)
    · split
      · exact .inr (.inr rfl)
      · rename_i h1 h2 h3
        rw [if_neg h1, if_neg h2, if_neg h3] at h
        exact absurd rfl h
theorem dcR_ok (bs : List Nat) : dcOk (dcR bs).1 := by
  unfold dcR
  split
  · rename_i h
    obtain ⟨-, -, -, -, -, hn⟩ := hdC_zero h
    unfold dcE
    split
    · split
      · exact fun _ _ h => by cases h
      · exact inF_ok (endF_cds _ _) (by omega)
    · exact dcL_ok (by simp only [List.length_nil]; omega)
  · rename_i h
    intro p c e
    simp only [Option.some.injEq, Prod.mk.injEq] at e
    obtain ⟨rfl, rfl⟩ := e
    have := hdC_code bs h
    exact ⟨-1, [], rfl, by decide, by omega, by simp⟩
theorem dcR_err {bs : List Nat} (h : (dcR bs).1 ≠ none) : (dcR bs).2 = [] := by
  unfold dcR dcE at h ⊢
  split
  · rename_i h0
    rw [if_pos h0] at h
    split
    · rename_i h1
      rw [if_pos h1] at h
      split
      · rename_i h2
        rw [if_pos h2] at h
        exact absurd rfl h
      · rfl
    · rfl
  · rfl
/-- frames of these sides, that may be -/
def likeF (W H : Nat) (L : List Fr) : Prop := ∀ f ∈ L, f.1 = (W : Int) ∧ f.2.1 = (H : Int) ∧ f.2.2.length = W * H ∧ Byt f.2.2
theorem dcL_like {bs : List Nat} {W H : Nat} : ∀ {f : Nat} {L : List Fr} {p : Nat}, likeF W H L → (dcL bs W H f L p).1 = none → likeF W H (dcL bs W H f L p).2.1
  | 0, _, _, hl, _ => hl
  | f + 1, L, p, hl, h => by
    simp only [dcL] at h ⊢
    split at h
    · rename_i h1
      rw [if_pos h1]
      refine dcL_like (fun g hg => ?_) h
      rcases List.mem_append.1 hg with hg | hg
      · exact hl g hg
      · rw [List.mem_singleton.1 hg]
        refine ⟨rfl, rfl, ?_⟩
        unfold rdFr at h1 ⊢
        split at h1
        · rename_i h2
          rw [if_pos h2]
          exact ⟨by rw [rdS_len h1]; simp, rdS_byt byt_nil⟩
        · rename_i h2
          exact absurd h1 h2
    · rename_i h1
      exfalso
      cases hf : (rdFr bs W H p).1 with
      | none => exact h1 hf
      | some a => rw [hf] at h; cases h
/-- what a video that is read holds -/
theorem dcR_like {bs : List Nat} (h : (dcR bs).1 = none) : hdC bs = 0 ∧ (dcR bs).2.length = bs.getD 4 0 ∧ likeF (8 * bs.getD 2 0) (8 * bs.getD 3 0) (dcR bs).2 := by
  unfold dcR dcE at h ⊢
  split at h
  · rename_i h0
    rw [if_pos h0]
    split at h
    · rename_i h1
      rw [if_pos h1]
      split at h
      · rename_i h2
        rw [if_pos h2]
        refine ⟨h0, ?_, dcL_like (fun _ hg => by cases hg) h1⟩
        rw [dcL_len h1]
        simp
      · rename_i h2
        exfalso
        cases hf : endF (bs.drop 5) (dcL (bs.drop 5) (8 * bs.getD 2 0) (8 * bs.getD 3 0) (bs.getD 4 0) [] 0).2.2 with
        | none => exact h2 hf
        | some a => rw [hf] at h; cases h
    · rename_i h1
      exact absurd h h1
  · cases h
theorem Bys.tail {w : World} {g off n cap k : Nat} {bs : List Nat} (h : Bys w (.slice (some ⟨g, off, none⟩) n cap) bs) (hk : k ≤ n) : Bys w (.slice (some ⟨g, off + k, none⟩) (n - k) (cap - k)) (bs.drop k) := by
  have hl := h.len
  obtain ⟨⟨a', cap', e, h1, h2, h3, h4⟩, h5, h6⟩ := h
  simp only [Value.slice.injEq] at e
  obtain ⟨rfl, -, rfl⟩ := e
  refine ⟨⟨some ⟨g, off + k, none⟩, cap - k, by rw [List.length_drop, hl], by rw [List.length_drop]; omega, Nat.le_trans (Nat.sub_le _ _) h2, fun _ => ⟨g, off + k, rfl⟩, fun g' off' ha j u hj => ?_⟩, fun x hx => h5 x (List.mem_of_mem_drop hx), by rw [List.length_drop]; omega⟩
  simp only [Option.some.injEq, Addr.mk.injEq, and_true] at ha
  obtain ⟨rfl, rfl⟩ := ha
  rw [List.getElem?_map, List.getElem?_drop, ← List.getElem?_map] at hj
  have := h4 g off rfl (k + j) u hj
  rw [← Nat.add_assoc] at this
  exact this
set_option maxHeartbeats 8000000 in
set_option maxRecDepth 100000 in
theorem chead_any (bs : List Nat) (v : Value) (w : World) (h : Bys w v bs) :
    Calls Tryz.prog 33 #[v] w fun e w' => e = .returned (.int .i64 (hdC bs)) ∧ Ext w w' := by
  obtain ⟨a, cap, rfl⟩ := h.form
  obtain ⟨n, hn⟩ : ∃ n, bs.length = n := ⟨_, rfl⟩
  rw [hn] at h ⊢
  by_cases h5 : n < 5
  · have HR : Hid (hdC bs = 1) := by show _ = _; unfold hdC; rw [hn, if_pos h5]
    have t1 : (n : Int) < 5 := by omega
    clear h hn h5
    go_enter Tryz.func33, Tryz.ntmps33
    go_wp2
    go_ret
    exact ⟨by rw [HR.out]; rfl, Ext.refl w⟩
  · obtain ⟨g, off, rfl⟩ := h.had (by omega)
    have c0 := h.at (nget_of_lt (j := 0) (by omega))
    have c1 := h.at (nget_of_lt (j := 1) (by omega))
    have c2 := h.at (nget_of_lt (j := 2) (by omega))
    have c3 := h.at (nget_of_lt (j := 3) (by omega))
    have c4 := h.at (nget_of_lt (j := 4) (by omega))
    rw [Nat.add_zero] at c0
    have b0 := h.lt 0
    have b1 := h.lt 1
    have b2 := h.lt 2
    have b3 := h.lt 3
    have b4 := h.lt 4
    have HR : Hid (hdC bs = if ¬ (bs.getD 0 0 = 75 ∧ bs.getD 1 0 = 83) then 2
  else if ¬ ((1 ≤ bs.getD 2 0 ∧ bs.getD 2 0 ≤ 4) ∧ (1 ≤ bs.getD 3 0 ∧ bs.getD 3 0 ≤ 4) ∧ (1 ≤ bs.getD 4 0 ∧ bs.getD 4 0 ≤ 16)) then 3 else 0) := by show _ = _; unfold hdC; rw [hn, if_neg h5]
    generalize bs.getD 0 0 = x0 at *
    generalize bs.getD 1 0 = x1 at *
    generalize bs.getD 2 0 = x2 at *
    generalize bs.getD 3 0 = x3 at *
    generalize bs.getD 4 0 = x4 at *
    have t1 : ¬ (n : Int) < 5 := by omega
    have t2 : (0 : Int) < (n : Int) := by omega
    have t3 : (1 : Int) < (n : Int) := by omega
    have t4 : (2 : Int) < (n : Int) := by omega
    have t5 : (3 : Int) < (n : Int) := by omega
    have t6 : (4 : Int) < (n : Int) := by omega
    clear h hn h5
    go_enter Tryz.func33, Tryz.ntmps33
    go_wp2
    all_goals go_ret
    all_goals refine ⟨?_, ?_⟩
    all_goals first
      | exact Ext.refl w
      | (rw [HR.out]; clear HR; simp only [bne_iff_ne, bne_eq_false_iff_eq, ne_eq] at *; first
          | (rw [if_pos (by omega)]; rfl)
          | (rw [if_neg (by omega), if_pos (by omega)]; rfl)
          | (rw [if_neg (by omega), if_neg (by omega)]; rfl))
end Go.Proofs.YtgohlhgapboijaaGreatDoor

/- source.readEnd, source.Decode. -/
namespace Go.Proofs.YtgohlhgapboijaaGreatDoor
set_option linter.unusedVariables false
set_option linter.unusedSimpArgs false
open Go.RowKit Go.Extern.Stop Go.Stop Go.Extern

theorem frD_left {L : List Fr} {f : Fr} {q : Nat} (h : q < L.length) : frD (L ++ [f]) q = frD L q := by
  unfold frD
  rw [List.getD, List.getD, List.getElem?_append_left h]
theorem frD_last (L : List Fr) (f : Fr) : frD (L ++ [f]) L.length = f := by
  unfold frD
  rw [List.getD, List.getElem?_append_right (Nat.le_refl _), Nat.sub_self]
  rfl
theorem fcells_congr2 {L M : List Fr} {S T : Nat → Value} {k : Nat} (h : ∀ q, q < k → frD L q = frD M q ∧ S q = T q) : fcells L S k = fcells M T k := by
  induction k with
  | zero => rfl
  | succ k ih => rw [fcells_succ, fcells_succ, ih fun q hq => h q (by omega), (h k (by omega)).1, (h k (by omega)).2]
theorem fms_of_own {w : World} {B k : Nat} {L : List Fr} {S : Nat → Value} {v : Value} (ho : w.ownsRow B 48 3 v k (fcells L S k)) (hs : CopOk w B L S k v) (hk : L.length = k) : Fms w v L := by
  subst hk
  obtain ⟨ua, uc, e⟩ := own_slice ho
  refine ⟨ua, uc, e, fun h0 => ?_⟩
  obtain ⟨g, gc, e2⟩ := own_addr2 ho h0
  have e3 := e.symm.trans e2
  simp only [Value.slice.injEq, true_and] at e3
  obtain ⟨rfl, rfl⟩ := e3
  refine ⟨g, 0, rfl, fun q f hq => ?_⟩
  obtain ⟨hql, -⟩ := List.getElem?_eq_some_iff.1 hq
  have hfd : frD L q = f := by unfold frD; rw [List.getD, hq]; rfl
  obtain ⟨g1, g2, g3⟩ := fcells_get L S L.length q hql
  obtain ⟨o1, -⟩ := hs q hql
  rw [e2] at ho
  obtain ⟨sa, sc, hS⟩ := own_slice o1
  rw [hS] at g3 o1
  rw [hfd] at g1 g2 g3 o1
  rw [Nat.zero_add]
  exact ⟨sa, _, sc, (own2_cell ho g1).1, (own2_cell ho g2).1, (own2_cell ho g3).1, Row.of_owns o1⟩
/-- the state of a decoding: the reader b, the frames so far in a list at B or above -/
def DcAt (F : Nat → Prop) (w0 wr : World) (B b : Nat) (bs : List Nat) (k : Nat) (L : List Fr) (S : Nat → Value) (lv : Value) (p : Nat) : Prop :=
  (RdAt F wr b bs p ∧ p ≤ 8 * bs.length) ∧ wr.ownsRow B 48 3 lv k (fcells L S k) ∧ CopOk wr B L S k lv ∧ L.length = k ∧ Ext w0 wr ∧ B ≤ wr.heap.size
theorem DcAt.kp {F : Nat → Prop} {w0 wr w' : World} {B b k p q : Nat} {bs : List Nat} {L : List Fr} {S : Nat → Value} {lv : Value} (h : DcAt F w0 wr B b bs k L S lv p) (kp : Kp b wr w') (hr : RdAt F w' b bs q) (hq : q ≤ 8 * bs.length) (hb : w0.heap.size ≤ b) (hbB : b < B) : DcAt F w0 w' B b bs k L S lv q := by
  obtain ⟨-, h2, h3, h4, h5, h6⟩ := h
  refine ⟨⟨hr, hq⟩, own_kp h2 kp (fun g hg => by have := (h2.lt g hg).1; omega), fun i hi => ?_, h4, Kp.out h5 kp hb, Nat.le_trans h6 kp.size⟩
  obtain ⟨o1, o2⟩ := h3 i hi
  exact ⟨own_kp o1 kp (fun g hg => by have := (o1.lt g hg).1; omega), o2⟩
theorem RdAt.grown15 {F : Nat → Prop} {w w' : World} {b B p : Nat} {bs : List Nat} {t : TypeId} {s n : Nat} {v : Value} {xs : List Value} (h : RdAt F w b bs p) (o : w.ownsRow B t s v n xs) (g : w.grownBy w' v.ownBlock) (hF : ∀ i, B ≤ i → F i) (hb : b < B) : RdAt F w' b bs p := by
  cases e : v.ownBlock with
  | none =>
    rw [e] at g
    exact h.ext ⟨World.grownBy.os g, World.grownBy.tape g, World.grownBy.output g, World.grownBy.size g, fun i hi => World.grownBy.block g i hi (fun e => by cases e)⟩
  | some d =>
    rw [e] at g
    have hd := (o.lt d e).1
    exact h.kp (d := d) g (hF d hd) (by omega)
/-- one frame more -/
theorem DcAt.push {F : Nat → Prop} {w0 wr w' : World} {B b k p : Nat} {bs : List Nat} {L : List Fr} {S : Nat → Value} {lv lv' u : Value} {f : Fr} (h : DcAt F w0 wr B b bs k L S lv p) (hF : ∀ i, B ≤ i → F i) (hb : b < B) (hB : w0.heap.size ≤ B)
    (hu : wr.ownsRow B 3 1 u f.2.2.length (f.2.2.map (Value.int .i64))) (ha : Apart lv u)
    (h1 : w'.ownsRow B 48 3 lv' (k + 1) (fcells L S k ++ [.int .i64 f.1, .int .i64 f.2.1, u])) (h2 : wr.grownBy w' lv.ownBlock) (h3 : lv'.ownBlock = lv.ownBlock ∨ lv'.ownBlock = some (wr.heap.size + 1)) :
    DcAt F w0 w' B b bs (k + 1) (L ++ [f]) (fun q => if q = k then u else S q) lv' p := by
  obtain ⟨⟨r1, r2⟩, o2, o3, rfl, o5, o6⟩ := h
  have hl := frD_last L f
  refine ⟨⟨r1.grown15 o2 h2 hF hb, r2⟩, ?_, fun q hq => ?_, by simp, Below.grown o5 h2 o5.size (fun k hk => Nat.le_trans hB (o2.lt k hk).1), Nat.le_trans o6 (World.grownBy.size h2)⟩
  · rw [fcells_succ, hl, fcells_congr2 (M := L) (T := S) (fun q hq => ⟨frD_left hq, if_neg (by omega)⟩), if_pos rfl]
    exact h1
  · by_cases hqk : q = L.length
    · subst hqk
      simp only [if_true]
      rw [hl]
      exact push_two hu ha h2 h3
    · simp only [if_neg hqk]
      rw [frD_left (by omega)]
      obtain ⟨x1, x2⟩ := o3 q (by omega)
      exact push_two x1 x2 h2 h3

set_option maxHeartbeats 4000000 in
set_option maxRecDepth 100000 in
theorem rend_any {F : Nat → Prop} (b p : Nat) (bs : List Nat) (w : World) (h : RdAt F w b bs p) (hp : p ≤ 8 * bs.length) :
    Calls Tryz.prog 37 #[.pointer (some ⟨b, 0, none⟩)] w fun e w' => ∃ x, e = .returned x ∧ Kp b w w' ∧ ErrIs w' (endF bs p) x := by
  have UA := Lib.hid (rdalign_any b p bs w h hp)
  have hq : p + alD p ≤ 8 * bs.length := by unfold alD; omega
  have HQ := Lib.hid hq
  cases hf : alF bs p (alD p) with
  | some fc =>
    have HR : Hid (endF bs p = some fc) := by show _ = _; unfold endF; rw [if_neg (by rw [hf]; simp), hf]
    rw [hf] at UA
    clear h hp hf hq
    go_enter Tryz.func37, Tryz.ntmps37
    go_wp2_with fail
    refine UA.out.mono ?_; rintro e w1 ⟨x, rfl, k1, r1, he⟩
    obtain ⟨tx, vx, rfl⟩ := ErrIs.ne he
    have HE := Lib.hid he
    clear he
    go_wp2
    go_ret
    exact ⟨_, rfl, k1, by rw [HR.out]; exact HE.out⟩
  | none =>
    have HR : Hid (endF bs p = if p + alD p < 8 * bs.length then some ([], 5) else none) := by show _ = _; unfold endF; rw [if_pos hf]
    rw [hf] at UA
    obtain ⟨q, hqq⟩ : ∃ q, p + alD p = q := ⟨_, rfl⟩
    rw [hqq] at UA HQ HR
    obtain ⟨D, hD⟩ : ∃ D, 8 * bs.length - q = D := ⟨_, rfl⟩
    have UL := Lib.hid (fun (W : World) (r : RdAt F W b bs q) => left_any b q bs W r HQ.out)
    rw [hD] at UL
    have HDD := Lib.hid hD
    clear h hp hf hq hqq hD
    go_enter Tryz.func37, Tryz.ntmps37
    go_wp2_with fail
    refine UA.out.mono ?_; rintro e w1 ⟨x, rfl, k1, r1, he⟩
    have hx : x = .nilIface := he
    subst hx
    have HK1 := Lib.hid k1
    have HR1 := Lib.hid r1
    clear he k1 r1
    go_wp2_with fail
    refine (UL.out _ HR1.out).mono ?_; rintro e w2 ⟨rfl, x2⟩
    have HK2 := Lib.hid (HK1.out.ext x2)
    clear x2
    by_cases h0 : 0 < D
    · have t1 : (0 : Int) < (D : Int) := by omega
      go_wp2
      go_ret
      exact ⟨_, rfl, HK2.out, by rw [HR.out, if_pos (by have := HDD.out; omega)]; exact ErrIs.code (by decide)⟩
    · have t1 : ¬ (0 : Int) < (D : Int) := by omega
      go_wp2
      go_ret
      exact ⟨_, rfl, HK2.out, by rw [HR.out, if_neg (by have := HDD.out; omega)]; rfl⟩
theorem rframe_good {F : Nat → Prop} (b p W H : Nat) (bs : List Nat) (w : World) (h : RdAt F w b bs p) (hp : p ≤ 8 * bs.length) (hW : 8 ≤ W ∧ W ≤ 32) (hH : 8 ≤ H ∧ H ≤ 32) (hF : ∀ g, w.heap.size ≤ g → F g) (hn : (rdFr bs W H p).1 = none) :
    Calls Tryz.prog 36 #[.pointer (some ⟨b, 0, none⟩), .int .i64 (W : Int), .int .i64 (H : Int)] w fun e w' => ∃ g, e = .returned (.tuple #[.agg #[.int .i64 (W : Int), .int .i64 (H : Int), .slice (some ⟨g, 0, none⟩) (W * H) (W * H)], .nilIface]) ∧ Kp b w w' ∧ RdAt F w' b bs (rdFr bs W H p).2.2 ∧ w.heap.size ≤ g ∧ w'.ownsRow w.heap.size 3 1 (.slice (some ⟨g, 0, none⟩) (W * H) (W * H)) (W * H) ((rdFr bs W H p).2.1.map (Value.int .i64)) :=
  (rframe_any b p W H bs w h hp hW hH hF).mono fun e w' ⟨fv, x, he, hk, hr, hx, _, hg⟩ => by
    obtain ⟨g, h1, h2, -, h4⟩ := hg hn
    rw [hn] at hx
    have hx : x = .nilIface := hx
    subst hx
    subst h2
    exact ⟨g, he, hk, hr, h1, h4⟩
theorem rframe_bad {F : Nat → Prop} (b p W H : Nat) (bs : List Nat) (w : World) (h : RdAt F w b bs p) (hp : p ≤ 8 * bs.length) (hW : 8 ≤ W ∧ W ≤ 32) (hH : 8 ≤ H ∧ H ≤ 32) (hF : ∀ g, w.heap.size ≤ g → F g) (fc : List (ByteArray × Int) × Int) (hn : (rdFr bs W H p).1 = some fc) :
    Calls Tryz.prog 36 #[.pointer (some ⟨b, 0, none⟩), .int .i64 (W : Int), .int .i64 (H : Int)] w fun e w' => ∃ tx vx, e = .returned (.tuple #[.agg #[.int .i64 0, .int .i64 0, .slice none 0 0], .iface tx vx]) ∧ Kp b w w' ∧ IsErr w' fc.1 fc.2 (.iface tx vx) :=
  (rframe_any b p W H bs w h hp hW hH hF).mono fun e w' ⟨fv, x, he, hk, hr, hx, hv, _⟩ => by
    have h2 := hv (by rw [hn]; simp)
    subst h2
    rw [hn] at hx
    obtain ⟨tx, vx, rfl⟩ := ErrIs.ne hx
    exact ⟨tx, vx, he, hk, hx.1⟩
theorem DcAt.fms {F : Nat → Prop} {w0 wr w' : World} {B b k p : Nat} {bs : List Nat} {L : List Fr} {S : Nat → Value} {lv : Value} (h : DcAt F w0 wr B b bs k L S lv p) (kp : Kp b wr w') (hbB : b < B) : Fms w' lv L := by
  obtain ⟨-, h2, h3, h4, -⟩ := h
  refine fms_of_own (own_kp h2 kp (fun g hg => by have := (h2.lt g hg).1; omega)) (fun i hi => ?_) h4
  obtain ⟨o1, o2⟩ := h3 i hi
  exact ⟨own_kp o1 kp (fun g hg => by have := (o1.lt g hg).1; omega), o2⟩
theorem dcE_err {bs : List Nat} {n : Nat} {R : Fall × List Fr × Nat} (h : R.1 ≠ none) : dcE bs n R = (R.1, []) := by
  unfold dcE
  rw [if_neg h]
/-- a frame that was read lies in a box D -/
def GotF (F : Nat → Prop) (wr wx : World) (b : Nat) (bs : List Nat) (q D W H : Nat) (zs : List Int) : Prop := ∃ g, (wx.cell? ⟨D, 0, none⟩ = some (.int .i64 (W : Int)) ∧ wx.cell? ⟨D, 1, none⟩ = some (.int .i64 (H : Int)) ∧ wx.cell? ⟨D, 2, none⟩ = some (.slice (some ⟨g, 0, none⟩) (W * H) (W * H))) ∧
  Kp b wr wx ∧ RdAt F wx b bs q ∧ wr.heap.size ≤ g ∧ wx.ownsRow wr.heap.size 3 1 (.slice (some ⟨g, 0, none⟩) (W * H) (W * H)) (W * H) (zs.map (Value.int .i64))
theorem gotF_alloc {F : Nat → Prop} {wr w5 : World} {b q W H g : Nat} {bs : List Nat} {zs : List Int} (hk : Kp b wr.drew w5) (hr : RdAt F w5 b bs q) (hg : wr.drew.heap.size ≤ g) (ho : w5.ownsRow wr.drew.heap.size 3 1 (.slice (some ⟨g, 0, none⟩) (W * H) (W * H)) (W * H) (zs.map (Value.int .i64))) :
    GotF F wr (w5.alloc (.cells #[.int .i64 (W : Int), .int .i64 (H : Int), .slice (some ⟨g, 0, none⟩) (W * H) (W * H)] 48)) b bs q w5.heap.size W H zs := by
  have x := (Ext.refl w5).alloc (.cells #[.int .i64 (W : Int), .int .i64 (H : Int), .slice (some ⟨g, 0, none⟩) (W * H) (W * H)] 48)
  exact ⟨g, ⟨by simp, by simp, by simp⟩, ((Kp.of_ext (Ext.refl wr).drew).trans hk).ext x, hr.ext x, hg, own_ext ho x⟩
theorem gotF_set {F : Nat → Prop} {wr wa w5 : World} {b q W H g : Nat} {bs : List Nat} {zs : List Int} (ha : Ext wr wa) (hsz : wr.heap.size + 1 = wa.heap.size) (hk : Kp b wa w5) (hr : RdAt F w5 b bs q) (hg : wa.heap.size ≤ g) (ho : w5.ownsRow wa.heap.size 3 1 (.slice (some ⟨g, 0, none⟩) (W * H) (W * H)) (W * H) (zs.map (Value.int .i64)))
    (q0 : w5.cell? ⟨wr.heap.size, 0, none⟩ = some (.int .i64 0)) (q1 : w5.cell? ⟨wr.heap.size, 1, none⟩ = some (.int .i64 0)) (q2 : w5.cell? ⟨wr.heap.size, 2, none⟩ = some (.slice none 0 0)) (hF : F wr.heap.size) (hb : b < wr.heap.size) :
    GotF F wr (((w5.setCell ⟨wr.heap.size, 0, none⟩ (.int .i64 (W : Int))).setCell ⟨wr.heap.size, 1, none⟩ (.int .i64 (H : Int))).setCell ⟨wr.heap.size, 2, none⟩ (.slice (some ⟨g, 0, none⟩) (W * H) (W * H))) b bs q wr.heap.size W H zs := by
  have kR : Kp wr.heap.size w5 (((w5.setCell ⟨wr.heap.size, 0, none⟩ (.int .i64 (W : Int))).setCell ⟨wr.heap.size, 1, none⟩ (.int .i64 (H : Int))).setCell ⟨wr.heap.size, 2, none⟩ (.slice (some ⟨g, 0, none⟩) (W * H) (W * H))) := (((Kp.refl wr.heap.size w5).set 0 _).set 1 _).set 2 _
  refine ⟨g, ⟨?_, ?_, ?_⟩, ?_, hr.kp kR hF (by omega), by omega, own_mono (own_kp ho kR (fun d hd => ?_)) (by omega)⟩
  · rw [cell_off_ne _ (by decide), cell_off_ne _ (by decide)]
    exact World.cell?_setCell_same _ _ _ q0
  · rw [cell_off_ne _ (by decide)]
    exact World.cell?_setCell_same _ _ _ (by rw [cell_off_ne _ (by decide)]; exact q1)
  · exact World.cell?_setCell_same _ _ _ (by rw [cell_off_ne _ (by decide), cell_off_ne _ (by decide)]; exact q2)
  · have k0 : Kp b wr w5 := (Kp.of_ext ha).trans hk
    exact ((k0.fresh15 (Nat.le_refl _) 0 _).fresh15 (Nat.le_refl _) 1 _).fresh15 (Nat.le_refl _) 2 _
  · have : g = d := by simpa [Value.ownBlock] using hd
    omega
def DcPost (w : World) (R : Fall × List Fr) (e : Ending) (w' : World) : Prop := ∃ lv x, e = .returned (.tuple #[lv, x]) ∧ Ext w w' ∧ ErrIs w' R.1 x ∧ Fms w' lv R.2
end Go.Proofs.YtgohlhgapboijaaGreatDoor
