/- Contracts of this seat: GpM, GpB. -/
import Derived.Test.YtlaedbglclmheaaGreatDoorZc
import Derived.Test.YtlaedbglclmheaaGreatDoorZe
import Derived.Test.YtlaedbglclmheaaGreatDoorZf
/- Chunk files, plain: what may be, what is packed, what is parsed. -/
namespace Go.Proofs.YtlaedbglclmheaaGreatDoor
set_option linter.unusedVariables false
set_option linter.unusedSimpArgs false
open Go.RowKit Go.Extern.Stop Go.Stop Go.Extern

def gopS : ByteArray := ⟨#[103, 111, 112]⟩
/-- may a frame of this kind begin a group; a chunk's numbers -/
def begB (k : Int) : Bool := k == 1 || k == 4
def grpB (n f c : Int) : Bool := decide (0 ≤ n) && decide (n < 16) && decide (0 ≤ f) && decide (f < 16) && decide (1 ≤ c) && decide (c ≤ 16)
/-- coded frames, the first of them at a place -/
def cdsB : Nat → List Cd → Bool
  | _, [] => true
  | i, c :: t => (rdC c.1 c.2 == 0) && (!(i == 0) || begB c.1) && cdsB (i + 1) t
def gmayB (n f c : Int) (L : List Cd) : Bool := grpB n f c && (decide ((L.length : Int) = c) && cdsB 0 L)
def umC (c : Cd) : Um := (c.1.toNat, c.2)
def umsG (n f c : Int) (L : List Cd) : List Um := (32, [n.toNat, f.toNat, c.toNat]) :: L.map umC
def gpkV (n f c : Int) (L : List Cd) : List Nat := if gmayB n f c L then outM (umsG n f c L) else []
def gpkF (n f c : Int) (L : List Cd) : Fall := if gmayB n f c L then none else some ([], 2)
theorem grp_iff {n f c : Int} : grpB n f c = true ↔ (0 ≤ n ∧ n < 16) ∧ (0 ≤ f ∧ f < 16) ∧ 1 ≤ c ∧ c ≤ 16 := by
  unfold grpB
  simp only [Bool.and_eq_true, decide_eq_true_eq]
  omega
theorem cds_cons {i : Nat} {c : Cd} {t : List Cd} (h : cdsB i (c :: t) = true) : rdC c.1 c.2 = 0 ∧ (i = 0 → begB c.1 = true) ∧ cdsB (i + 1) t = true := by
  unfold cdsB at h
  simp only [Bool.and_eq_true, beq_iff_eq, Bool.or_eq_true, Bool.not_eq_true', beq_eq_false_iff_ne] at h
  obtain ⟨⟨h1, h2⟩, h3⟩ := h
  exact ⟨h1, fun e => h2.elim (fun h => absurd e h) id, h3⟩
theorem cds_bad {i : Nat} {c : Cd} {t : List Cd} (h : rdC c.1 c.2 ≠ 0 ∨ (i = 0 ∧ begB c.1 = false)) : cdsB i (c :: t) = false := by
  unfold cdsB
  rcases h with h | ⟨rfl, h⟩
  · rw [beq_eq_false_iff_ne.2 h]; rfl
  · rw [h]; simp
theorem cds_good {i : Nat} {c : Cd} {t : List Cd} (h1 : rdC c.1 c.2 = 0) (h2 : i = 0 → begB c.1 = true) : cdsB i (c :: t) = cdsB (i + 1) t := by
  rw [cdsB, h1]
  by_cases e : i = 0
  · rw [h2 e, e]; simp
  · rw [beq_eq_false_iff_ne.2 e]; simp
theorem cds_all {t : List Cd} : ∀ {i : Nat}, cdsB i t = true → ∀ c ∈ t, rdC c.1 c.2 = 0 := by
  induction t with
  | nil => intro i _ c hc; cases hc
  | cons a t ih =>
    intro i h c hc
    obtain ⟨h1, h2, h3⟩ := cds_cons h
    rcases List.mem_cons.1 hc with rfl | hc
    · exact h1
    · exact ih h3 c hc
/-- what reads as a coded frame -/
theorem rd_ok {k : Int} {bs : List Nat} (h : rdC k bs = 0) : (1 ≤ k ∧ k ≤ 4) ∧ bs.length ≤ 65536 := by
  unfold rdC at h
  split at h
  · cases h
  · split at h
    · split at h
      · cases h
      · exact ⟨by omega, by omega⟩
    · split at h
      · cases h
      · split at h
        · cases h
        · split at h
          · cases h
          · exact ⟨by omega, by omega⟩
theorem okM_cd {c : Cd} (h : rdC c.1 c.2 = 0) (hb : ∀ x ∈ c.2, x < 256) : okM (umC c) := by
  obtain ⟨⟨h1, h2⟩, h3⟩ := rd_ok h
  refine ⟨by show c.1.toNat < 256; omega, fun e => ?_, h3, hb⟩
  have e : c.1.toNat = 0 := e
  omega
theorem okM_hd {n f c : Int} (h : grpB n f c = true) : okM (32, [n.toNat, f.toNat, c.toNat]) := by
  have := grp_iff.1 h
  refine ⟨by show 32 < 256; decide, fun e => (Nat.succ_ne_zero _ e).elim, by show 3 ≤ 65536; decide, fun x hx => ?_⟩
  simp only [List.mem_cons, List.not_mem_nil, or_false] at hx
  rcases hx with rfl | rfl | rfl <;> omega
/-- what is parsed so far -/
abbrev GS := (Int × Int × Int) × List Cd
def gs0 : GS := ((0, 0, 0), [])
/-- one more unit: a code, 0 where there is none; what is parsed then -/
def gtk (i : Nat) (s : GS) (u : Un) : Int × GS :=
  if i = 0 then
    if u.1 ≠ 32 ∨ u.2.1.length ≠ 3 then (2, s)
    else if grpB (u.2.1.getD 0 0 : Nat) (u.2.1.getD 1 0 : Nat) (u.2.1.getD 2 0 : Nat) then (0, (((u.2.1.getD 0 0 : Nat), (u.2.1.getD 1 0 : Nat), (u.2.1.getD 2 0 : Nat)), s.2)) else (2, s)
  else if s.1.2.2 < (i : Int) then (5, s)
  else if i = 1 ∧ begB (u.1 : Int) = false then (2, s)
  else if rdC (u.1 : Int) u.2.1 = 0 then (0, (s.1, s.2 ++ [((u.1 : Int), u.2.1)])) else (rdC (u.1 : Int) u.2.1, s)
/-- all units, from one on: how many went, the code that stopped it -/
def grn : List Un → Nat → GS → Int × Nat × GS
  | [], i, s => (0, i, s)
  | u :: t, i, s => if (gtk i s u).1 = 0 then grn t (i + 1) (gtk i s u).2 else ((gtk i s u).1, i, s)
def gwh (s : GS) : Bool := decide (0 < s.1.2.2) && decide ((s.2.length : Int) = s.1.2.2)
/-- the end: why not, and what -/
def gfin (F : Fall) (r : Int × Nat × GS) : Fall × GS :=
  if r.1 ≠ 0 then (some ([(gopS, (r.2.1 : Int))], r.1), gs0)
  else match F with
    | some e => (some ((gopS, (r.2.1 : Int)) :: e.1, e.2), gs0)
    | none => if gwh r.2.2 then (none, r.2.2) else (some ([(gopS, (r.2.1 : Int))], 1), gs0)
def gpsV (bs : List Nat) : Fall × GS := gfin (spU bs 0).1 (grn (spU bs 0).2 0 gs0)
theorem grn_ok {u : Un} {t : List Un} {i : Nat} {s s' : GS} (h : gtk i s u = (0, s')) : grn (u :: t) i s = grn t (i + 1) s' := by rw [grn, h, if_pos rfl]
theorem grn_bad {u : Un} {t : List Un} {i : Nat} {s s' : GS} {c : Int} (h : gtk i s u = (c, s')) (hc : c ≠ 0) : grn (u :: t) i s = (c, i, s) := by rw [grn, h, if_neg hc]
end Go.Proofs.YtlaedbglclmheaaGreatDoor

/- Chunk files there and back: plain. -/
namespace Go.Proofs.YtlaedbglclmheaaGreatDoor
set_option linter.unusedVariables false
set_option linter.unusedSimpArgs false
open Go.RowKit Go.Extern.Stop Go.Stop Go.Extern

theorem grn_lay {n f c : Int} : ∀ (T pre : List Cd) (p : Nat) (r : List Un), ((pre.length + T.length : Nat) : Int) ≤ c → cdsB pre.length T = true → grn (lay p (T.map umC) ++ r) (pre.length + 1) ((n, f, c), pre) = grn r (pre.length + T.length + 1) ((n, f, c), pre ++ T)
  | [], pre, p, r, _, _ => by rw [List.append_nil]; rfl
  | a :: T, pre, p, r, hl, hc => by
    obtain ⟨h1, h2, h3⟩ := cds_cons hc
    obtain ⟨⟨k1, k2⟩, -⟩ := rd_ok h1
    have e1 : (((umC a).1 : Nat) : Int) = a.1 := by show ((a.1.toNat : Nat) : Int) = a.1; omega
    have ht : gtk (pre.length + 1) ((n, f, c), pre) ((umC a).1, (umC a).2, (p : Int), ((p + (encB (umC a).1 (umC a).2).length : Nat) : Int)) = (0, ((n, f, c), pre ++ [a])) := by
      unfold gtk
      rw [List.length_cons] at hl
      rw [if_neg (Nat.succ_ne_zero _), if_neg (by show ¬ c < ((pre.length + 1 : Nat) : Int); omega), if_neg ?_]
      · show (if rdC (((umC a).1 : Nat) : Int) a.2 = 0 then _ else _) = _
        rw [e1, if_pos h1]
        rfl
      · rintro ⟨e, hb⟩
        have hb : begB (((umC a).1 : Nat) : Int) = false := hb
        rw [e1, h2 (by omega)] at hb
        cases hb
    show grn (_ :: (lay _ (T.map umC) ++ r)) _ _ = _
    rw [grn_ok ht]
    have hpl : (pre ++ [a]).length = pre.length + 1 := by rw [List.length_append]; rfl
    have ih := grn_lay (n := n) (f := f) (c := c) T (pre ++ [a]) (p + (encB (umC a).1 (umC a).2).length) r (by rw [hpl]; rw [List.length_cons] at hl; omega) (by rw [hpl]; exact h3)
    rw [hpl] at ih
    rw [ih, List.append_assoc, List.length_cons, show pre.length + 1 + T.length + 1 = pre.length + (T.length + 1) + 1 by omega]
    rfl
theorem gtk_head {n f c : Int} (h : grpB n f c = true) (p e : Int) : gtk 0 gs0 (32, [n.toNat, f.toNat, c.toNat], p, e) = (0, ((n, f, c), [])) := by
  obtain ⟨⟨a1, a2⟩, ⟨a3, a4⟩, a5, a6⟩ := grp_iff.1 h
  have e1 : ((n.toNat : Nat) : Int) = n := by omega
  have e2 : ((f.toNat : Nat) : Int) = f := by omega
  have e3 : ((c.toNat : Nat) : Int) = c := by omega
  unfold gtk
  rw [if_pos rfl, if_neg (by simp)]
  show (if grpB ((n.toNat : Nat) : Int) ((f.toNat : Nat) : Int) ((c.toNat : Nat) : Int) = true then ((0 : Int), ((((n.toNat : Nat) : Int), ((f.toNat : Nat) : Int), ((c.toNat : Nat) : Int)), gs0.2)) else (2, gs0)) = _
  rw [e1, e2, e3, if_pos h]
  rfl
theorem gmay_out {n f c : Int} {L : List Cd} (h : gmayB n f c L = true) : grpB n f c = true ∧ (L.length : Int) = c ∧ cdsB 0 L = true := by
  unfold gmayB at h
  simp only [Bool.and_eq_true, decide_eq_true_eq] at h
  exact h
theorem umsG_ok {n f c : Int} {L : List Cd} (h : gmayB n f c L = true) (hb : ∀ a ∈ L, ∀ x ∈ a.2, x < 256) : ∀ u ∈ umsG n f c L, okM u := by
  obtain ⟨h1, h2, h3⟩ := gmay_out h
  intro u hu
  rcases List.mem_cons.1 hu with rfl | hu
  · exact okM_hd h1
  · obtain ⟨a, ha, rfl⟩ := List.mem_map.1 hu
    exact okM_cd (cds_all h3 a ha) (hb a ha)
theorem grn_all {n f c : Int} {L : List Cd} (h : gmayB n f c L = true) (r : List Un) : grn (lay 0 (umsG n f c L) ++ r) 0 gs0 = grn r (L.length + 1) ((n, f, c), L) := by
  obtain ⟨h1, h2, h3⟩ := gmay_out h
  show grn ((32, [n.toNat, f.toNat, c.toNat], _, _) :: (lay _ (L.map umC) ++ r)) 0 gs0 = _
  rw [grn_ok (gtk_head h1 _ _)]
  have := grn_lay (n := n) (f := f) (c := c) L [] (0 + (encB 32 [n.toNat, f.toNat, c.toNat]).length) r (by rw [List.length_nil, Nat.zero_add, h2]; exact Int.le_refl _) h3
  rw [List.length_nil, Nat.zero_add, Nat.zero_add, List.nil_append] at this
  rw [Nat.zero_add] at this ⊢
  exact this
/-- back -/
theorem gps_back {n f c : Int} {L : List Cd} (h : gmayB n f c L = true) (hb : ∀ a ∈ L, ∀ x ∈ a.2, x < 256) : gpsV (outM (umsG n f c L)) = (none, ((n, f, c), L)) := by
  obtain ⟨h1, h2, h3⟩ := gmay_out h
  have := grn_all h []
  rw [List.append_nil] at this
  unfold gpsV
  rw [sp_whole (umsG_ok h hb), this]
  show gfin none (0, L.length + 1, ((n, f, c), L)) = _
  unfold gfin
  rw [if_neg (by simp)]
  have hw : gwh ((n, f, c), L) = true := by
    have := (grp_iff.1 h1).2.2
    unfold gwh
    simp only [Bool.and_eq_true, decide_eq_true_eq]
    exact ⟨by omega, h2⟩
  simp only [hw, if_true]
/-- with a byte more -/
theorem gps_more {n f c : Int} {L : List Cd} (h : gmayB n f c L = true) (hb : ∀ a ∈ L, ∀ x ∈ a.2, x < 256) : (gpsV (outM (umsG n f c L) ++ [0])).1 ≠ none := by
  obtain ⟨h1, h2, h3⟩ := gmay_out h
  obtain ⟨l, hl⟩ : ∃ l, umsG n f c L = l := ⟨_, rfl⟩
  have hm := sp_made l [] [0] (by rw [← hl]; exact umsG_ok h hb)
  rw [List.nil_append, show ([] : List Nat).length = 0 from rfl, Nat.zero_add] at hm
  have hd : (outM l ++ [0]).drop (outM l).length = [0] := List.drop_left
  have hn := sp_next (bs := outM l ++ [0]) (a := (outM l).length) (by rw [List.length_append]; simp) (K := 0) (D := []) (E := 1) (by rw [hd]; rfl)
  have hall := grn_all h (spU (outM l ++ [0]) (outM l).length).2
  rw [hl] at hall ⊢
  unfold gpsV
  rw [hm, hall, hn]
  have ht : ∀ A E, gtk (L.length + 1) ((n, f, c), L) (0, [], A, E) = (5, ((n, f, c), L)) := fun A E => by
    unfold gtk
    rw [if_neg (Nat.succ_ne_zero _), if_pos (by show c < ((L.length + 1 : Nat) : Int); omega)]
  rw [grn_bad (ht _ _) (by decide)]
  unfold gfin
  rw [if_pos (by show (5 : Int) ≠ 0; decide)]
  intro e
  cases e
theorem gfin_err {F : Fall} {r : Int × Nat × GS} (h : F ≠ none ∨ gwh r.2.2 = false) : (gfin F r).1 ≠ none := by
  unfold gfin
  split
  · intro e; cases e
  · cases F with
    | some e => intro e; cases e
    | none =>
      rcases h with h | h
      · exact absurd rfl h
      · rw [h]
        intro e
        cases e
theorem eN_ex (l : List Um) (c : Nat) : ∃ m, m ≤ l.length ∧ eN l m ≤ c ∧ (m = l.length ∨ c < eN l (m + 1)) := by
  have go : ∀ k, k ≤ l.length → (∀ m, m ≤ k → eN l m ≤ c) ∨ ∃ m, m < k ∧ eN l m ≤ c ∧ c < eN l (m + 1) := by
    intro k
    induction k with
    | zero => exact fun _ => .inl (fun m hm => by
      have e : m = 0 := (by omega)
      subst e
      exact Nat.zero_le _)
    | succ k ih =>
      intro hk
      rcases ih (by omega) with h | ⟨m, h1, h2, h3⟩
      · by_cases h0 : eN l (k + 1) ≤ c
        · exact .inl (fun m hm => by
            rcases Nat.lt_or_ge k m with h' | h'
            · obtain rfl : m = k + 1 := by omega
              exact h0
            · exact h m h')
        · exact .inr ⟨k, Nat.lt_succ_self _, h k (Nat.le_refl _), by omega⟩
      · exact .inr ⟨m, by omega, h2, h3⟩
  rcases go l.length (Nat.le_refl _) with h | ⟨m, h1, h2, h3⟩
  · exact ⟨l.length, Nat.le_refl _, h _ (Nat.le_refl _), .inl rfl⟩
  · exact ⟨m, by omega, h2, .inr h3⟩
/-- cut off anywhere -/
theorem gps_cut {n f c : Int} {L : List Cd} (h : gmayB n f c L = true) (hb : ∀ a ∈ L, ∀ x ∈ a.2, x < 256) {k : Nat} (hk : k < (outM (umsG n f c L)).length) : (gpsV ((outM (umsG n f c L)).take k)).1 ≠ none := by
  obtain ⟨h1, h2, h3⟩ := gmay_out h
  obtain ⟨m, m1, m2, m3⟩ := eN_ex (umsG n f c L) k
  obtain ⟨G, hs, hG⟩ := sp_cut (umsG_ok h hb) m1 m2 m3 (Nat.le_of_lt hk)
  unfold gpsV
  rw [hs]
  by_cases hg : G = none
  · refine gfin_err (.inr ?_)
    have hkm := hG.1 hg
    have hml : m < (umsG n f c L).length := by
      refine Nat.lt_of_le_of_ne m1 fun e => ?_
      have : eN (umsG n f c L) m = (outM (umsG n f c L)).length := by unfold eN; rw [e, List.take_of_length_le (Nat.le_refl _)]
      omega
    have hLl : (umsG n f c L).length = L.length + 1 := by unfold umsG; rw [List.length_cons, List.length_map]
    show gwh (grn ((lay 0 (umsG n f c L)).take m) 0 gs0).2.2 = false
    rw [← lay_take]
    cases m with
    | zero => rfl
    | succ m =>
      have hm : m < L.length := by omega
      have e : (umsG n f c L).take (m + 1) = (32, [n.toNat, f.toNat, c.toNat]) :: (L.take m).map umC := by
        unfold umsG
        rw [List.take_succ_cons, List.map_take]
      have htl : (L.take m).length = m := by rw [List.length_take]; omega
      have hcd : cdsB 0 (L.take m) = true := by
        have : ∀ (i j : Nat) (T : List Cd), cdsB i T = true → cdsB i (T.take j) = true := by
          intro i j T
          induction T generalizing i j with
          | nil => intro _; cases j <;> rfl
          | cons a T ih =>
            intro ha
            cases j with
            | zero => rfl
            | succ j =>
              obtain ⟨p1, p2, p3⟩ := cds_cons ha
              rw [List.take_succ_cons, cds_good p1 p2]
              exact ih _ _ p3
        exact this _ _ _ h3
      have := grn_lay (n := n) (f := f) (c := c) (L.take m) [] (0 + (encB 32 [n.toNat, f.toNat, c.toNat]).length) [] (by rw [List.length_nil, Nat.zero_add, htl]; omega) hcd
      rw [List.append_nil] at this
      rw [e]
      show gwh (grn ((32, [n.toNat, f.toNat, c.toNat], _, _) :: lay _ ((L.take m).map umC)) 0 gs0).2.2 = false
      rw [grn_ok (gtk_head h1 _ _)]
      rw [show ([] : List Cd).length + 1 = 0 + 1 from rfl] at this
      rw [this]
      show gwh ((n, f, c), [] ++ L.take m) = false
      unfold gwh
      rw [Bool.and_eq_false_iff]
      right
      rw [List.nil_append, htl]
      exact decide_eq_false (show ¬ ((m : Nat) : Int) = c by omega)
  · exact gfin_err (.inl hg)
end Go.Proofs.YtlaedbglclmheaaGreatDoor
