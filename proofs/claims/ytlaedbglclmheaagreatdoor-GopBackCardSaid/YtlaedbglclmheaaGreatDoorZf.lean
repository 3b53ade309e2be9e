/- Contracts of this seat: Sy1, Sy2, CdF. -/
import Derived.Test.YtlaedbglclmheaaGreatDoorZc
import Derived.Test.YtlaedbglclmheaaGreatDoorZb
import Derived.Deep.RegionHeld3
/- syntax.Pack: its contract over this seat's translation. -/
namespace Go.Proofs.YtlaedbglclmheaaGreatDoor
set_option linter.unusedVariables false
set_option linter.unusedSimpArgs false
open Go.RowKit Go.Extern.Stop Go.Stop Go.Extern

/-- Pack: the error's code, 0 where there is none; the coded frame's kind and bytes -/
def pkC (k q : Int) (n : Nat) : Int := if k < 1 ∨ 4 < k then 13 else if q < 0 ∨ 15 < q then 3 else if 2 < k ∧ (q ≠ 0 ∨ 0 < n) then 2 else if 65536 ≤ n then 5 else 0
def pkF (k q : Int) (n : Nat) : Fall := if pkC k q n = 0 then none else some ([], pkC k q n)
def pkV (k q : Int) (bs : List Nat) : Int × List Nat := if pkC k q bs.length = 0 then (k, if 2 < k then [] else q.toNat :: bs) else (0, [])
def PkPost (w : World) (r : Int × List Nat) (f : Fall) (e : Ending) (w' : World) : Prop := ∃ u x, e = .returned (.tuple #[.agg #[.int .i64 r.1, u], x]) ∧ (Bys w' u r.2 ∧ Plain u) ∧ ErrIs w' f x ∧ Ext w w'
theorem pk_no {k q : Int} {bs : List Nat} {n : Nat} {c : Int} (hn : bs.length = n) (h : pkC k q n = c) (hc : c ≠ 0) : pkV k q bs = (0, []) ∧ pkF k q n = some ([], c) := by
  unfold pkV pkF
  rw [hn, h, if_neg hc, if_neg hc]
  exact ⟨rfl, rfl⟩
/-- a result of kind api.Coded, kept in a variable of the call's own -/
theorem CdAt.new (w : World) : ResAt (w.alloc (.cells #[.int .i64 0, .slice none 0 0] 61)) w.heap.size := by
  refine ⟨?_, ?_, ?_, ?_⟩ <;> simp
theorem own_oneS (W : World) (m : Nat) (hm : W.heap.size = m) (k : Int) : (W.alloc (.cells #[.int .u8 k] 5)).ownsRow m 5 1 (.slice (some ⟨m, 0, none⟩) 1 1) 1 [.int .u8 k] := by
  subst hm
  exact ⟨rfl, .inr ⟨W.heap.size, 1, #[.int .u8 k], rfl, Nat.le_refl _, heap_alloc_new W _, Nat.le_refl _, by decide, rfl, rfl⟩⟩
theorem has_yes {k : Int} (h : (k == 1) = true ∨ (k == 1) = false ∧ (k == 2) = true) (w : World) : Calls Tryz.prog 98 #[.int .i64 k] w fun e w' => e = .returned (.bool true) ∧ w = w' := by
  rcases h with h1 | ⟨h1, h2⟩
  · go_enter Tryz.func98, Tryz.ntmps98
    go_wp2
    go_ret
    exact ⟨rfl, rfl⟩
  · go_enter Tryz.func98, Tryz.ntmps98
    go_wp2
    go_ret
    exact ⟨rfl, rfl⟩
set_option maxHeartbeats 4000000 in
set_option maxRecDepth 20000 in
theorem pack_any (k q : Int) (bs : List Nat) (v : Value) (w : World) (h : Bys w v bs) (hlen : bs.length ≤ 1000000) : Calls Tryz.prog 151 #[.agg #[.int .i64 k, .int .i64 q, v]] w (PkPost w (pkV k q bs) (pkF k q bs.length)) := by
  obtain ⟨a, cap, rfl⟩ := h.form
  obtain ⟨n, hn⟩ : ∃ n, bs.length = n := ⟨_, rfl⟩
  have HN := Lib.hid hn
  have HB : Hid (Bys w (.slice a n cap) bs) := by show Bys _ _ _; rw [← hn]; exact h
  rw [hn] at hlen ⊢
  have HR0 : Hid (ResAt ((w.alloc (.cells #[.int .i64 k, .int .i64 q, .slice a n cap] 108)).alloc (.cells #[.int .i64 0, .slice none 0 0] 61)) (w.heap.size + 1)) := by
    have e : (w.alloc (.cells #[.int .i64 k, .int .i64 q, .slice a n cap] 108)).heap.size = w.heap.size + 1 := by simp
    have := CdAt.new (w.alloc (.cells #[.int .i64 k, .int .i64 q, .slice a n cap] 108))
    rw [e] at this
    exact this
  have HE0 := Lib.hid (((Ext.refl w).alloc (.cells #[.int .i64 k, .int .i64 q, .slice a n cap] 108)).alloc (.cells #[.int .i64 0, .slice none 0 0] 61))
  clear hn h
  by_cases h1 : k < 1
  · have HF : Hid (pkC k q n = 13) := by show _ = _; unfold pkC; rw [if_pos (.inl h1)]
    -- in hand: HF : pkC k q n = 13, facts of the tests
    obtain ⟨hv0, hf0⟩ := pk_no HN.out HF.out (by decide)
    have HV := Lib.hid hv0
    have HFF := Lib.hid hf0
    clear hv0 hf0 HF
    go_enter Tryz.func151, Tryz.ntmps151
    go_wp2
    obtain ⟨q0, q1, q2, q3⟩ := HR0.out
    exact bodyPost_ret (v := .tuple #[.agg #[.int .i64 0, .slice none 0 0], .iface 35 (.int .i64 13)]) (by simp [results, Tryz.results151, go_sem, q0, q1]) rfl ⟨_, _, by rw [HV.out], by rw [HV.out]; exact ⟨Bys.nil _, .inl rfl⟩, by rw [HFF.out]; exact ErrIs.code (by decide), HE0.out⟩
  by_cases h2 : 4 < k
  · have HF : Hid (pkC k q n = 13) := by show _ = _; unfold pkC; rw [if_pos (.inr h2)]
    -- in hand: HF : pkC k q n = 13, facts of the tests
    obtain ⟨hv0, hf0⟩ := pk_no HN.out HF.out (by decide)
    have HV := Lib.hid hv0
    have HFF := Lib.hid hf0
    clear hv0 hf0 HF
    go_enter Tryz.func151, Tryz.ntmps151
    go_wp2
    obtain ⟨q0, q1, q2, q3⟩ := HR0.out
    exact bodyPost_ret (v := .tuple #[.agg #[.int .i64 0, .slice none 0 0], .iface 35 (.int .i64 13)]) (by simp [results, Tryz.results151, go_sem, q0, q1]) rfl ⟨_, _, by rw [HV.out], by rw [HV.out]; exact ⟨Bys.nil _, .inl rfl⟩, by rw [HFF.out]; exact ErrIs.code (by decide), HE0.out⟩
  by_cases h3 : q < 0
  · have HF : Hid (pkC k q n = 3) := by show _ = _; unfold pkC; rw [if_neg (by omega), if_pos (.inl h3)]
    -- in hand: HF : pkC k q n = 3, facts of the tests
    obtain ⟨hv0, hf0⟩ := pk_no HN.out HF.out (by decide)
    have HV := Lib.hid hv0
    have HFF := Lib.hid hf0
    clear hv0 hf0 HF
    go_enter Tryz.func151, Tryz.ntmps151
    go_wp2
    obtain ⟨q0, q1, q2, q3⟩ := HR0.out
    exact bodyPost_ret (v := .tuple #[.agg #[.int .i64 0, .slice none 0 0], .iface 35 (.int .i64 3)]) (by simp [results, Tryz.results151, go_sem, q0, q1]) rfl ⟨_, _, by rw [HV.out], by rw [HV.out]; exact ⟨Bys.nil _, .inl rfl⟩, by rw [HFF.out]; exact ErrIs.code (by decide), HE0.out⟩
  by_cases h4 : 15 < q
  · have HF : Hid (pkC k q n = 3) := by show _ = _; unfold pkC; rw [if_neg (by omega), if_pos (.inr h4)]
    -- in hand: HF : pkC k q n = 3, facts of the tests
    obtain ⟨hv0, hf0⟩ := pk_no HN.out HF.out (by decide)
    have HV := Lib.hid hv0
    have HFF := Lib.hid hf0
    clear hv0 hf0 HF
    go_enter Tryz.func151, Tryz.ntmps151
    go_wp2
    obtain ⟨q0, q1, q2, q3⟩ := HR0.out
    exact bodyPost_ret (v := .tuple #[.agg #[.int .i64 0, .slice none 0 0], .iface 35 (.int .i64 3)]) (by simp [results, Tryz.results151, go_sem, q0, q1]) rfl ⟨_, _, by rw [HV.out], by rw [HV.out]; exact ⟨Bys.nil _, .inl rfl⟩, by rw [HFF.out]; exact ErrIs.code (by decide), HE0.out⟩
  by_cases h5 : 2 < k
  · have k1 : (k == 1) = false := by rw [beq_eq_false_iff_ne]; omega
    have k2 : (k == 2) = false := by rw [beq_eq_false_iff_ne]; omega
    by_cases h6 : q = 0
    · have q6 : (q != 0) = false := by rw [h6]; rfl
      by_cases h7 : 0 < n
      · have HF : Hid (pkC k q n = 2) := by show _ = _; unfold pkC; rw [if_neg (by omega), if_neg (by omega), if_pos ⟨h5, .inr h7⟩]
        have h7' : (0 : Int) < (n : Int) := by omega
        clear h6
        -- in hand: HF : pkC k q n = 2, facts of the tests
        obtain ⟨hv0, hf0⟩ := pk_no HN.out HF.out (by decide)
        have HV := Lib.hid hv0
        have HFF := Lib.hid hf0
        clear hv0 hf0 HF
        go_enter Tryz.func151, Tryz.ntmps151
        go_wp2
        obtain ⟨q0, q1, q2, q3⟩ := HR0.out
        exact bodyPost_ret (v := .tuple #[.agg #[.int .i64 0, .slice none 0 0], .iface 35 (.int .i64 2)]) (by simp [results, Tryz.results151, go_sem, q0, q1]) rfl ⟨_, _, by rw [HV.out], by rw [HV.out]; exact ⟨Bys.nil _, .inl rfl⟩, by rw [HFF.out]; exact ErrIs.code (by decide), HE0.out⟩
      · have HF : pkC k q n = 0 := by unfold pkC; rw [if_neg (by omega), if_neg (by omega), if_neg (by omega), if_neg (by omega)]
        have HV : Hid (pkV k q bs = (k, [])) := by show _ = _; unfold pkV; rw [HN.out, if_pos HF, if_pos h5]
        have HFF : Hid (pkF k q n = none) := by show _ = _; unfold pkF; rw [if_pos HF]
        obtain rfl : n = 0 := by omega
        clear h6 h7 HF
        go_enter Tryz.func151, Tryz.ntmps151
        go_wp2
        exact bodyPost_ret (v := .tuple #[.agg #[.int .i64 k, .slice none 0 0], .nilIface]) (by simp [results, Tryz.results151, go_sem]) rfl ⟨_, _, by rw [HV.out], by rw [HV.out]; exact ⟨Bys.nil _, .inl rfl⟩, by rw [HFF.out]; exact rfl, ((Ext.refl w).alloc _).alloc _⟩
    · have q6 : (q != 0) = true := by rw [bne_iff_ne]; exact h6
      have HF : Hid (pkC k q n = 2) := by show _ = _; unfold pkC; rw [if_neg (by omega), if_neg (by omega), if_pos ⟨h5, .inl h6⟩]
      clear h6
      -- in hand: HF : pkC k q n = 2, facts of the tests
      obtain ⟨hv0, hf0⟩ := pk_no HN.out HF.out (by decide)
      have HV := Lib.hid hv0
      have HFF := Lib.hid hf0
      clear hv0 hf0 HF
      go_enter Tryz.func151, Tryz.ntmps151
      go_wp2
      obtain ⟨q0, q1, q2, q3⟩ := HR0.out
      exact bodyPost_ret (v := .tuple #[.agg #[.int .i64 0, .slice none 0 0], .iface 35 (.int .i64 2)]) (by simp [results, Tryz.results151, go_sem, q0, q1]) rfl ⟨_, _, by rw [HV.out], by rw [HV.out]; exact ⟨Bys.nil _, .inl rfl⟩, by rw [HFF.out]; exact ErrIs.code (by decide), HE0.out⟩
  · have k12 : (k == 1) = true ∨ (k == 1) = false ∧ (k == 2) = true := by
      by_cases e : k = 1
      · exact .inl (by rw [e]; rfl)
      · exact .inr ⟨by rw [beq_eq_false_iff_ne]; exact e, by rw [beq_iff_eq]; omega⟩
    by_cases h8 : 65536 ≤ n
    · have HF : Hid (pkC k q n = 5) := by show _ = _; unfold pkC; rw [if_neg (by omega), if_neg (by omega), if_neg (by omega), if_pos h8]
      have h8q : decide ((65536 : Int) ≤ (n : Int)) = true := decide_eq_true (by omega)
      clear h8 hlen
      rcases k12 with k1 | ⟨k1, k2⟩
      · -- in hand: HF : pkC k q n = 5, facts of the tests
        obtain ⟨hv0, hf0⟩ := pk_no HN.out HF.out (by decide)
        have HV := Lib.hid hv0
        have HFF := Lib.hid hf0
        clear hv0 hf0 HF
        go_enter Tryz.func151, Tryz.ntmps151
        go_wp2
        obtain ⟨q0, q1, q2, q3⟩ := HR0.out
        exact bodyPost_ret (v := .tuple #[.agg #[.int .i64 0, .slice none 0 0], .iface 35 (.int .i64 5)]) (by simp [results, Tryz.results151, go_sem, q0, q1]) rfl ⟨_, _, by rw [HV.out], by rw [HV.out]; exact ⟨Bys.nil _, .inl rfl⟩, by rw [HFF.out]; exact ErrIs.code (by decide), HE0.out⟩
      · -- in hand: HF : pkC k q n = 5, facts of the tests
        obtain ⟨hv0, hf0⟩ := pk_no HN.out HF.out (by decide)
        have HV := Lib.hid hv0
        have HFF := Lib.hid hf0
        clear hv0 hf0 HF
        go_enter Tryz.func151, Tryz.ntmps151
        go_wp2
        obtain ⟨q0, q1, q2, q3⟩ := HR0.out
        exact bodyPost_ret (v := .tuple #[.agg #[.int .i64 0, .slice none 0 0], .iface 35 (.int .i64 5)]) (by simp [results, Tryz.results151, go_sem, q0, q1]) rfl ⟨_, _, by rw [HV.out], by rw [HV.out]; exact ⟨Bys.nil _, .inl rfl⟩, by rw [HFF.out]; exact ErrIs.code (by decide), HE0.out⟩
    · have HF : pkC k q n = 0 := by unfold pkC; rw [if_neg (by omega), if_neg (by omega), if_neg (by omega), if_neg h8]
      have HV : Hid (pkV k q bs = (k, q.toNat :: bs)) := by show _ = _; unfold pkV; rw [HN.out, if_pos HF, if_neg h5]
      have HFF : Hid (pkF k q n = none) := by show _ = _; unfold pkF; rw [if_pos HF]
      have h8q : decide ((65536 : Int) ≤ (n : Int)) = false := decide_eq_false (by omega)
      obtain ⟨i0, hi, hz0, hz1, hz2⟩ := info_parts infoU8
      obtain ⟨r, rfl⟩ : ∃ r : Nat, q = (r : Int) := ⟨q.toNat, by omega⟩
      have hr15 : r ≤ 15 := by omega
      have HRL := Lib.hid hr15
      have m6 : IntKind.u8.wrap (r : Int) = (r : Int) := by rw [IntKind.wrap_u8]; omega
      have HO1 := Lib.hid (own_oneS ((w.alloc (.cells #[.int .i64 k, .int .i64 (r : Int), .slice a n cap] 108)).alloc (.cells #[.int .i64 0, .slice none 0 0] 61)) (w.heap.size + 2) (by simp) (r : Int))
      have HW1 := Lib.hid (HE0.out.alloc (.cells #[.int .u8 (r : Int)] 5))
      have HW2 := Lib.hid ((Ext.refl ((w.alloc (.cells #[.int .i64 k, .int .i64 (r : Int), .slice a n cap] 108)).alloc (.cells #[.int .i64 0, .slice none 0 0] 61))).alloc (.cells #[.int .u8 (r : Int)] 5))
      have HR1 := Lib.hid (HR0.out.ext HW2.out)
      have HB1 : Hid (Row ((((w.alloc (.cells #[.int .i64 k, .int .i64 (r : Int), .slice a n cap] 108)).alloc (.cells #[.int .i64 0, .slice none 0 0] 61))).alloc (.cells #[.int .u8 (r : Int)] 5)) (.slice a n cap) n (bs.map fun x : Nat => Value.int .u8 (x : Int))) := by
        have := (HB.out.ext HW1.out).1
        rw [HN.out] at this
        exact this
      have HC0 : Hid ((((w.alloc (.cells #[.int .i64 k, .int .i64 (r : Int), .slice a n cap] 108)).alloc (.cells #[.int .i64 0, .slice none 0 0] 61)).alloc (.cells #[.int .u8 (r : Int)] 5)).cell? ⟨w.heap.size, 0, none⟩ = some (.int .i64 k)) := by
        show _ = _
        have c : (w.alloc (.cells #[.int .i64 k, .int .i64 (r : Int), .slice a n cap] 108)).cell? ⟨w.heap.size, 0, none⟩ = some (.int .i64 k) := by simp
        exact (((Ext.refl _).alloc _).alloc _).cell c
      have HL := Lib.hid hlen
      have hsz : ((w.alloc (.cells #[.int .i64 k, .int .i64 (r : Int), .slice a n cap] 108)).alloc (.cells #[.int .i64 0, .slice none 0 0] 61)).heap.size = w.heap.size + 2 := by simp
      have HS2 := Lib.hid hsz
      clear HF h8 hlen h3 hr15 hsz
      have q3 : ¬ (r : Int) < 0 := by omega
      go_enter Tryz.func151, Tryz.ntmps151
      go_wp2_with (first | (go_at_call 98; refine (has_yes k12 _).mono ?_; rintro e w' ⟨rfl, rfl⟩) | (at_builtin; refine append_row rfl _ _ 30 rfl 5 i0 _ 1 1 Tryz.underlying30 hi hz0 hz1 hz2 rfl (by decide) (.slice (some ⟨w.heap.size + 2, 0, none⟩) 1 1) 1 [.int .u8 (r : Int)] rfl HO1.out (.slice a n cap) n (bs.map fun x : Nat => Value.int .u8 (x : Int)) rfl HB1.out (by rw [List.length_map, HN.out, Nat.mul_one]) (fun x hx => by obtain ⟨y, -, rfl⟩ := List.mem_map.1 hx; rfl) (by simp) (by have := HL.out; unfold maxLen; omega) (by have := HL.out; omega) ?_; intro v' w2 h1 h2 h3; obtain ⟨ga, gcap, rfl⟩ := (Row.of_owns h1).form; have HRR := Lib.hid (HR1.out.under h2 (by omega)); have c0 := (Below.cell h2 (p := ⟨w.heap.size, 0, none⟩) (by show w.heap.size < w.heap.size + 2; omega)).trans HC0.out; obtain ⟨q0, q1, f0, f1⟩ := HRR.out; have HE2 := Lib.hid (HW1.out.of_below h2 (by omega)); have HO2 := Lib.hid h1; clear h1 h2 h3))
      obtain ⟨e0, e1⟩ := res_cells q0 q1 (c := k) (.slice ga (1 + n) gcap)
      exact bodyPost_ret (v := .tuple #[.agg #[.int .i64 k, .slice ga (1 + n) gcap], .nilIface]) (by simp [results, Tryz.results151, go_sem, e0, e1]) rfl ⟨_, _, by rw [HV.out], by
        rw [HV.out]
        have o1 := ownsRow_setCell_below (ownsRow_setCell_below HO2.out (a := ⟨w.heap.size + 1, 0, none⟩) (by show w.heap.size + 1 < w.heap.size + 2; omega) (.int .i64 k)) (a := ⟨w.heap.size + 1, 1, none⟩) (by show w.heap.size + 1 < w.heap.size + 2; omega) (.slice ga (1 + n) gcap)
        have hn := HN.out
        subst hn
        rw [Nat.add_comm 1 bs.length] at o1 ⊢
        refine ⟨Bys.of_owns (bs := ((r : Int)).toNat :: bs) o1 (fun x hx => ?_) (by have := HL.out; simp; omega), Plain.of_owns o1⟩
        rcases List.mem_cons.1 hx with rfl | hx
        · have := HRL.out; omega
        · exact HB.out.2.1 x hx, by rw [HFF.out]; exact rfl, (HE2.out.setCell (p := ⟨w.heap.size + 1, 0, none⟩) (Nat.le_succ _) _).setCell (p := ⟨w.heap.size + 1, 1, none⟩) (Nat.le_succ _) _⟩
end Go.Proofs.YtlaedbglclmheaaGreatDoor

/- syntax.Read, syntax.Cost: their contracts over this seat's translation. -/
namespace Go.Proofs.YtlaedbglclmheaaGreatDoor
set_option linter.unusedVariables false
set_option linter.unusedSimpArgs false
open Go.RowKit Go.Extern.Stop Go.Stop Go.Extern

/-- Read: the error's code, 0 where there is none; the head -/
def rdC (k : Int) (bs : List Nat) : Int := if k < 1 ∨ 4 < k then 13 else if 2 < k then (if 0 < bs.length then 2 else 0) else if bs.length = 0 then 1 else if 15 < bs.headD 0 then 3 else if 65536 < bs.length then 5 else 0
def rdF (k : Int) (bs : List Nat) : Fall := if rdC k bs = 0 then none else some ([], rdC k bs)
def rdV (k : Int) (bs : List Nat) : Int × Int × List Nat := if rdC k bs = 0 then (if 2 < k then (k, 0, []) else (k, ((bs.headD 0 : Nat) : Int), bs.tail)) else (0, 0, [])
def RdPost (w : World) (r : Int × Int × List Nat) (f : Fall) (e : Ending) (w' : World) : Prop := ∃ u x, e = .returned (.tuple #[.agg #[.int .i64 r.1, .int .i64 r.2.1, u], x]) ∧ Bys w' u r.2.2 ∧ ErrIs w' f x ∧ Ext w w'
theorem rd_no {k : Int} {bs : List Nat} {c : Int} (h : rdC k bs = c) (hc : c ≠ 0) : rdV k bs = (0, 0, []) ∧ rdF k bs = some ([], c) := by
  unfold rdV rdF
  rw [h, if_neg hc, if_neg hc]
  exact ⟨rfl, rfl⟩
/-- a head of the call's own -/
def HdAt (w : World) (B : Nat) : Prop := (w.cell? ⟨B, 0, none⟩ = some (.int .i64 0) ∧ w.cell? ⟨B, 1, none⟩ = some (.int .i64 0) ∧ w.cell? ⟨B, 2, none⟩ = some (.slice none 0 0)) ∧ w.frozen? ⟨B, 0, none⟩ = false ∧ w.frozen? ⟨B, 1, none⟩ = false ∧ w.frozen? ⟨B, 2, none⟩ = false
theorem HdAt.new (w : World) : HdAt (w.alloc (.cells #[.int .i64 0, .int .i64 0, .slice none 0 0] 108)) w.heap.size := by
  refine ⟨⟨by simp, by simp, by simp⟩, by simp, by simp, by simp⟩
theorem HdAt.ext {w w' : World} {B : Nat} (h : HdAt w B) (k : Ext w w') : HdAt w' B := by
  obtain ⟨⟨h0, h1, h2⟩, f0, f1, f2⟩ := h
  exact ⟨⟨k.cell h0, k.cell h1, k.cell h2⟩, (Below.frozen k (Ext.lt h0)).trans f0, (Below.frozen k (Ext.lt h1)).trans f1, (Below.frozen k (Ext.lt h2)).trans f2⟩
theorem hd_cells {w : World} {B : Nat} (x y z : Value) (h0 : w.cell? ⟨B, 0, none⟩ = some (.int .i64 0)) (h1 : w.cell? ⟨B, 1, none⟩ = some (.int .i64 0)) (h2 : w.cell? ⟨B, 2, none⟩ = some (.slice none 0 0)) :
    (((w.setCell ⟨B, 0, none⟩ x).setCell ⟨B, 1, none⟩ y).setCell ⟨B, 2, none⟩ z).cell? ⟨B, 0, none⟩ = some x ∧ (((w.setCell ⟨B, 0, none⟩ x).setCell ⟨B, 1, none⟩ y).setCell ⟨B, 2, none⟩ z).cell? ⟨B, 1, none⟩ = some y ∧ (((w.setCell ⟨B, 0, none⟩ x).setCell ⟨B, 1, none⟩ y).setCell ⟨B, 2, none⟩ z).cell? ⟨B, 2, none⟩ = some z := by
  have a0 := World.cell?_setCell_same _ _ x h0
  have a1 := (World.cell?_setCell_other w ⟨B, 0, none⟩ ⟨B, 1, none⟩ x (by simp)).trans h1
  have a2 := (World.cell?_setCell_other w ⟨B, 0, none⟩ ⟨B, 2, none⟩ x (by simp)).trans h2
  have b1 := World.cell?_setCell_same _ _ y a1
  have b0 := (World.cell?_setCell_other (w.setCell ⟨B, 0, none⟩ x) ⟨B, 1, none⟩ ⟨B, 0, none⟩ y (by simp)).trans a0
  have b2 := (World.cell?_setCell_other (w.setCell ⟨B, 0, none⟩ x) ⟨B, 1, none⟩ ⟨B, 2, none⟩ y (by simp)).trans a2
  have c2 := World.cell?_setCell_same _ _ z b2
  have c0 := (World.cell?_setCell_other ((w.setCell ⟨B, 0, none⟩ x).setCell ⟨B, 1, none⟩ y) ⟨B, 2, none⟩ ⟨B, 0, none⟩ z (by simp)).trans b0
  have c1 := (World.cell?_setCell_other ((w.setCell ⟨B, 0, none⟩ x).setCell ⟨B, 1, none⟩ y) ⟨B, 2, none⟩ ⟨B, 1, none⟩ z (by simp)).trans b1
  exact ⟨c0, c1, c2⟩
/-- bytes but the first -/
theorem Bys.rest {w : World} {g off n cap : Nat} {bs : List Nat} (h : Bys w (.slice (some ⟨g, off, none⟩) n cap) bs) (hn : 1 ≤ n) : Bys w (.slice (some ⟨g, off + 1, none⟩) (n - 1) (cap - 1)) bs.tail := by
  have hl := h.len
  have hc := h.caps
  refine ⟨⟨some ⟨g, off + 1, none⟩, cap - 1, ?_, ?_, ?_, fun _ => ⟨g, off + 1, rfl⟩, ?_⟩, fun x hx => h.2.1 x (List.mem_of_mem_tail hx), ?_⟩
  · rw [List.length_tail, hl]
  · rw [List.length_tail]; omega
  · omega
  · intro g' off' e j x hj
    simp only [Option.some.injEq, Addr.mk.injEq] at e
    obtain ⟨rfl, rfl, -⟩ := e
    rw [List.getElem?_map] at hj
    cases hb : bs.tail[j]? with
    | none => rw [hb] at hj; cases hj
    | some y =>
      rw [hb] at hj
      obtain rfl := Option.some.inj hj
      rw [List.getElem?_tail] at hb
      have := h.at hb
      rwa [show off + (j + 1) = off + 1 + j by omega] at this
  · have := h.2.2
    rw [List.length_tail]; omega
theorem Bys.restIf {w : World} {g off n cap : Nat} {bs : List Nat} (h : Bys w (.slice (some ⟨g, off, none⟩) n cap) bs) (hn : 1 ≤ n) : Bys w (.slice (if cap = 1 then some ⟨g, off, none⟩ else some ⟨g, off + 1, none⟩) (n - 1) (cap - 1)) bs.tail := by
  split
  · rename_i hc1
    have hl := h.len
    have hc := h.caps
    have ht : bs.tail = [] := List.eq_nil_of_length_eq_zero (by rw [List.length_tail]; omega)
    rw [ht]
    refine ⟨⟨some ⟨g, off, none⟩, cap - 1, ?_, ?_, ?_, fun _ => ⟨g, off, rfl⟩, ?_⟩, by simp, by simp⟩
    · rw [show n - 1 = ([] : List Nat).length by simp; omega]
    · simp
    · omega
    · intro g' off' e j x hj
      simp at hj
  · exact h.rest hn
theorem below_setR {B i : Nat} {a w : World} {u : Value} (h : Below B a w) : Below B a (w.setCell ⟨B, i, none⟩ u) := Below.setCell h (p := ⟨B, i, none⟩) (Nat.le_refl _) u
theorem own_slcS {w : World} {base n : Nat} {v : Value} {e : TypeId} {s : Nat} {xs : List Value} (h : w.ownsRow base e s v n xs) : ∃ a m c, v = .slice a m c := by
  rcases h.2 with ⟨rfl, -⟩ | ⟨g, cap, cur, rfl, -⟩
  · exact ⟨_, _, _, rfl⟩
  · exact ⟨_, _, _, rfl⟩
theorem cost_any (k : Int) (bs : List Nat) (v : Value) (w : World) (h : Bys w v bs) (hlen : bs.length ≤ 1000000) : Calls Tryz.prog 28 #[.agg #[.int .i64 k, v]] w fun e w' => e = .returned (.int .i64 ((bs.length : Int) + 8)) ∧ Ext w w' := by
  obtain ⟨a, cap, rfl⟩ := h.form
  obtain ⟨n, hn⟩ : ∃ n, bs.length = n := ⟨_, rfl⟩
  rw [hn] at hlen ⊢
  have e1 : IntKind.i64.wrap ((n : Int) + 4) = (n : Int) + 4 := by rw [IntKind.wrap_i64]; omega
  have e2 : IntKind.i64.wrap ((n : Int) + 4 + 4) = (n : Int) + 8 := by rw [IntKind.wrap_i64]; omega
  clear h hn hlen
  go_enter Tryz.func28, Tryz.ntmps28
  go_wp2
  go_ret
  exact ⟨rfl, (Ext.refl w).alloc _⟩
set_option maxHeartbeats 4000000 in
set_option maxRecDepth 20000 in
theorem read_any (k : Int) (bs : List Nat) (v : Value) (w : World) (h : Bys w v bs) (hlen : bs.length ≤ 1000000) : Calls Tryz.prog 52 #[.agg #[.int .i64 k, v]] w (RdPost w (rdV k bs) (rdF k bs)) := by
  obtain ⟨a, cap, rfl⟩ := h.form
  obtain ⟨n, hn⟩ : ∃ n, bs.length = n := ⟨_, rfl⟩
  have HN := Lib.hid hn
  have HB : Hid (Bys w (.slice a n cap) bs) := by show Bys _ _ _; rw [← hn]; exact h
  rw [hn] at hlen ⊢
  clear hn h
  by_cases h1 : k < 1
  · have HF : Hid (rdC k bs = 13) := by show _ = _; unfold rdC; rw [if_pos (.inl h1)]
    obtain ⟨hv0, hf0⟩ := rd_no HF.out (by decide)
    have HV := Lib.hid hv0
    have HFF := Lib.hid hf0
    clear hv0 hf0 HF
    go_enter Tryz.func52, Tryz.ntmps52
    go_wp2
    exact bodyPost_ret (v := .tuple #[.agg #[.int .i64 0, .int .i64 0, .slice none 0 0], .iface 35 (.int .i64 13)]) (by simp [results, Tryz.results52, go_sem]) rfl ⟨_, _, by rw [HV.out], by rw [HV.out]; exact Bys.nil _, by rw [HFF.out]; exact ErrIs.code (by decide), ((Ext.refl w).alloc _).alloc _⟩
  by_cases h2 : 4 < k
  · have HF : Hid (rdC k bs = 13) := by show _ = _; unfold rdC; rw [if_pos (.inr h2)]
    obtain ⟨hv0, hf0⟩ := rd_no HF.out (by decide)
    have HV := Lib.hid hv0
    have HFF := Lib.hid hf0
    clear hv0 hf0 HF
    go_enter Tryz.func52, Tryz.ntmps52
    go_wp2
    exact bodyPost_ret (v := .tuple #[.agg #[.int .i64 0, .int .i64 0, .slice none 0 0], .iface 35 (.int .i64 13)]) (by simp [results, Tryz.results52, go_sem]) rfl ⟨_, _, by rw [HV.out], by rw [HV.out]; exact Bys.nil _, by rw [HFF.out]; exact ErrIs.code (by decide), ((Ext.refl w).alloc _).alloc _⟩
  by_cases h5 : 2 < k
  · have k1 : (k == 1) = false := by rw [beq_eq_false_iff_ne]; omega
    have k2 : (k == 2) = false := by rw [beq_eq_false_iff_ne]; omega
    by_cases h7 : 0 < n
    · have HF : Hid (rdC k bs = 2) := by show _ = _; unfold rdC; rw [if_neg (by omega), if_pos h5, HN.out, if_pos h7]
      have h7' : (0 : Int) < (n : Int) := by omega
      obtain ⟨hv0, hf0⟩ := rd_no HF.out (by decide)
      have HV := Lib.hid hv0
      have HFF := Lib.hid hf0
      clear hv0 hf0 HF
      go_enter Tryz.func52, Tryz.ntmps52
      go_wp2
      exact bodyPost_ret (v := .tuple #[.agg #[.int .i64 0, .int .i64 0, .slice none 0 0], .iface 35 (.int .i64 2)]) (by simp [results, Tryz.results52, go_sem]) rfl ⟨_, _, by rw [HV.out], by rw [HV.out]; exact Bys.nil _, by rw [HFF.out]; exact ErrIs.code (by decide), ((Ext.refl w).alloc _).alloc _⟩
    · have HF : rdC k bs = 0 := by unfold rdC; rw [if_neg (by omega), if_pos h5, HN.out, if_neg h7]
      have HV : Hid (rdV k bs = (k, 0, [])) := by show _ = _; unfold rdV; rw [if_pos HF, if_pos h5]
      have HFF : Hid (rdF k bs = none) := by show _ = _; unfold rdF; rw [if_pos HF]
      obtain rfl : n = 0 := by omega
      clear h7 HF
      go_enter Tryz.func52, Tryz.ntmps52
      go_wp2
      exact bodyPost_ret (v := .tuple #[.agg #[.int .i64 k, .int .i64 0, .slice none 0 0], .nilIface]) (by simp [results, Tryz.results52, go_sem]) rfl ⟨_, _, by rw [HV.out], by rw [HV.out]; exact Bys.nil _, by rw [HFF.out]; exact rfl, ((Ext.refl w).alloc _).alloc _⟩
  have k12 : (k == 1) = true ∨ (k == 1) = false ∧ (k == 2) = true := by
    by_cases e : k = 1
    · exact .inl (by rw [e]; rfl)
    · exact .inr ⟨by rw [beq_eq_false_iff_ne]; exact e, by rw [beq_iff_eq]; omega⟩
  by_cases h0 : n = 0
  · have HF : Hid (rdC k bs = 1) := by show _ = _; unfold rdC; rw [if_neg (by omega), if_neg h5, if_pos (by rw [HN.out]; exact h0)]
    subst h0
    rcases k12 with k1 | ⟨k1, k2⟩
    · obtain ⟨hv0, hf0⟩ := rd_no HF.out (by decide)
      have HV := Lib.hid hv0
      have HFF := Lib.hid hf0
      clear hv0 hf0 HF
      go_enter Tryz.func52, Tryz.ntmps52
      go_wp2
      exact bodyPost_ret (v := .tuple #[.agg #[.int .i64 0, .int .i64 0, .slice none 0 0], .iface 35 (.int .i64 1)]) (by simp [results, Tryz.results52, go_sem]) rfl ⟨_, _, by rw [HV.out], by rw [HV.out]; exact Bys.nil _, by rw [HFF.out]; exact ErrIs.code (by decide), ((Ext.refl w).alloc _).alloc _⟩
    · obtain ⟨hv0, hf0⟩ := rd_no HF.out (by decide)
      have HV := Lib.hid hv0
      have HFF := Lib.hid hf0
      clear hv0 hf0 HF
      go_enter Tryz.func52, Tryz.ntmps52
      go_wp2
      exact bodyPost_ret (v := .tuple #[.agg #[.int .i64 0, .int .i64 0, .slice none 0 0], .iface 35 (.int .i64 1)]) (by simp [results, Tryz.results52, go_sem]) rfl ⟨_, _, by rw [HV.out], by rw [HV.out]; exact Bys.nil _, by rw [HFF.out]; exact ErrIs.code (by decide), ((Ext.refl w).alloc _).alloc _⟩
  have n0 : ((n : Int) == 0) = false := by rw [beq_eq_false_iff_ne]; omega
  obtain ⟨g, off, rfl⟩ := HB.out.had (by omega)
  obtain ⟨b, cs, hb⟩ : ∃ b cs, bs = b :: cs := by
    cases bs with
    | nil => exact absurd (HN.out.symm) h0
    | cons b cs => exact ⟨b, cs, rfl⟩
  have cb : w.cell? ⟨g, off, none⟩ = some (.int .u8 (b : Int)) := by
    have := HB.out.at (j := 0) (x := b) (by rw [hb]; rfl)
    simpa using this
  have hh : bs.headD 0 = b := by rw [hb]; rfl
  have ht : bs.tail = cs := by rw [hb]; rfl
  have hb256 : b < 256 := HB.out.2.1 b (by rw [hb]; simp)
  have HHB := Lib.hid hh
  have HTT := Lib.hid ht
  have x0 : (0 : Int) < (n : Int) := by omega
  have HBT := HB.out.restIf (by omega)
  rw [ht] at HBT
  clear hb hh ht
  by_cases h6 : 15 < b
  · have HF : Hid (rdC k bs = 3) := by show _ = _; unfold rdC; rw [if_neg (by omega), if_neg h5, if_neg (by rw [HN.out]; exact h0), HHB.out, if_pos h6]
    have h6' : (15 : Int) < (b : Int) := by omega
    have cb1 := (((Ext.refl w).alloc (.cells #[.int .i64 k, .slice (some ⟨g, off, none⟩) n cap] 61)).alloc (.cells #[.int .i64 0, .int .i64 0, .slice none 0 0] 108)).cell cb
    clear HBT hb256
    rcases k12 with k1 | ⟨k1, k2⟩
    · obtain ⟨hv0, hf0⟩ := rd_no HF.out (by decide)
      have HV := Lib.hid hv0
      have HFF := Lib.hid hf0
      clear hv0 hf0 HF
      go_enter Tryz.func52, Tryz.ntmps52
      go_wp2
      exact bodyPost_ret (v := .tuple #[.agg #[.int .i64 0, .int .i64 0, .slice none 0 0], .iface 35 (.int .i64 3)]) (by simp [results, Tryz.results52, go_sem]) rfl ⟨_, _, by rw [HV.out], by rw [HV.out]; exact Bys.nil _, by rw [HFF.out]; exact ErrIs.code (by decide), ((Ext.refl w).alloc _).alloc _⟩
    · obtain ⟨hv0, hf0⟩ := rd_no HF.out (by decide)
      have HV := Lib.hid hv0
      have HFF := Lib.hid hf0
      clear hv0 hf0 HF
      go_enter Tryz.func52, Tryz.ntmps52
      go_wp2
      exact bodyPost_ret (v := .tuple #[.agg #[.int .i64 0, .int .i64 0, .slice none 0 0], .iface 35 (.int .i64 3)]) (by simp [results, Tryz.results52, go_sem]) rfl ⟨_, _, by rw [HV.out], by rw [HV.out]; exact Bys.nil _, by rw [HFF.out]; exact ErrIs.code (by decide), ((Ext.refl w).alloc _).alloc _⟩
  have h6' : ¬ (15 : Int) < (b : Int) := by omega
  have cb1 := (((Ext.refl w).alloc (.cells #[.int .i64 k, .slice (some ⟨g, off, none⟩) n cap] 61)).alloc (.cells #[.int .i64 0, .int .i64 0, .slice none 0 0] 108)).cell cb
  by_cases h8 : 65536 < n
  · have HF : Hid (rdC k bs = 5) := by show _ = _; unfold rdC; rw [if_neg (by omega), if_neg h5, if_neg (by rw [HN.out]; exact h0), HHB.out, if_neg h6, if_pos (by rw [HN.out]; exact h8)]
    have h8q : decide ((65536 : Int) < (n : Int)) = true := decide_eq_true (by omega)
    clear h8 hlen HBT hb256
    rcases k12 with k1 | ⟨k1, k2⟩
    · obtain ⟨hv0, hf0⟩ := rd_no HF.out (by decide)
      have HV := Lib.hid hv0
      have HFF := Lib.hid hf0
      clear hv0 hf0 HF
      go_enter Tryz.func52, Tryz.ntmps52
      go_wp2
      exact bodyPost_ret (v := .tuple #[.agg #[.int .i64 0, .int .i64 0, .slice none 0 0], .iface 35 (.int .i64 5)]) (by simp [results, Tryz.results52, go_sem]) rfl ⟨_, _, by rw [HV.out], by rw [HV.out]; exact Bys.nil _, by rw [HFF.out]; exact ErrIs.code (by decide), ((Ext.refl w).alloc _).alloc _⟩
    · obtain ⟨hv0, hf0⟩ := rd_no HF.out (by decide)
      have HV := Lib.hid hv0
      have HFF := Lib.hid hf0
      clear hv0 hf0 HF
      go_enter Tryz.func52, Tryz.ntmps52
      go_wp2
      exact bodyPost_ret (v := .tuple #[.agg #[.int .i64 0, .int .i64 0, .slice none 0 0], .iface 35 (.int .i64 5)]) (by simp [results, Tryz.results52, go_sem]) rfl ⟨_, _, by rw [HV.out], by rw [HV.out]; exact Bys.nil _, by rw [HFF.out]; exact ErrIs.code (by decide), ((Ext.refl w).alloc _).alloc _⟩
  have HF : rdC k bs = 0 := by unfold rdC; rw [if_neg (by omega), if_neg h5, if_neg (by rw [HN.out]; exact h0), HHB.out, if_neg h6, if_neg (by rw [HN.out]; exact h8)]
  have HV : Hid (rdV k bs = (k, (b : Int), cs)) := by show _ = _; unfold rdV; rw [if_pos HF, if_neg h5, HHB.out, HTT.out]
  have HFF : Hid (rdF k bs = none) := by show _ = _; unfold rdF; rw [if_pos HF]
  have h8q : decide ((65536 : Int) < (n : Int)) = false := decide_eq_false (by omega)
  have HX1 := Lib.hid (((Ext.refl w).alloc (.cells #[.int .i64 k, .slice (some ⟨g, off, none⟩) n cap] 61)).alloc (.cells #[.int .i64 0, .int .i64 0, .slice none 0 0] 108))
  have HH : Hid (HdAt ((w.alloc (.cells #[.int .i64 k, .slice (some ⟨g, off, none⟩) n cap] 61)).alloc (.cells #[.int .i64 0, .int .i64 0, .slice none 0 0] 108)) (w.heap.size + 1)) := by
    have e : (w.alloc (.cells #[.int .i64 k, .slice (some ⟨g, off, none⟩) n cap] 61)).heap.size = w.heap.size + 1 := by simp
    have := HdAt.new (w.alloc (.cells #[.int .i64 k, .slice (some ⟨g, off, none⟩) n cap] 61))
    rw [e] at this
    exact this
  have c00 : (w.alloc (.cells #[.int .i64 k, .slice (some ⟨g, off, none⟩) n cap] 61)).cell? ⟨w.heap.size, 0, none⟩ = some (.int .i64 k) := by simp
  have c10 : (w.alloc (.cells #[.int .i64 k, .slice (some ⟨g, off, none⟩) n cap] 61)).cell? ⟨w.heap.size, 1, none⟩ = some (.slice (some ⟨g, off, none⟩) n cap) := by simp
  have c0 := ((Ext.refl _).alloc (.cells #[.int .i64 0, .int .i64 0, .slice none 0 0] 108)).cell c00
  have c1 := ((Ext.refl _).alloc (.cells #[.int .i64 0, .int .i64 0, .slice none 0 0] 108)).cell c10
  have x1n : (1 : Int) ≤ (n : Int) := by omega
  have x1c : (n : Int) ≤ (cap : Int) := by have := HB.out.caps; omega
  have hcl : cs.length ≤ 1000000 := by rw [← HTT.out, List.length_tail, HN.out]; omega
  have m5 : IntKind.i64.wrap (b : Int) = (b : Int) := by rw [IntKind.wrap_i64]; omega
  have hlt : ∀ x ∈ cs, x < 256 := HBT.2.1
  obtain ⟨w1, hw1⟩ : ∃ z, (w.alloc (.cells #[.int .i64 k, .slice (some ⟨g, off, none⟩) n cap] 61)).alloc (.cells #[.int .i64 0, .int .i64 0, .slice none 0 0] 108) = z := ⟨_, rfl⟩
  have HW1 := Lib.hid hw1
  have HGB := Lib.hid (Ext.lt cb)
  have HSZ : Hid (w1.heap.size = w.heap.size + 2) := by show _ = _; rw [← hw1]; simp
  have HX0 := Lib.hid x0
  have HX1N := Lib.hid x1n
  have HX1C := Lib.hid x1c
  clear hw1 x1n x1c
  have HBU := Lib.hid HBT
  have HLT := Lib.hid hlt
  have HCL := Lib.hid hcl
  clear c00 c10 hlen h8 HF HBT hlt hcl
  by_cases hc1 : cap = 1
  · subst hc1
    obtain rfl : n = 1 := by
      have h1 := HX1C.out
      have h2 := HX1N.out
      omega
    rw [if_pos rfl] at HBU
    have q16 : ¬ ((1 : Nat) : Int) < 1 := by omega
    go_enter Tryz.func52, Tryz.ntmps52
    go_wp2_with (go_at_call 98; refine (has_yes k12 _).mono ?_; rintro e w' ⟨rfl, rfl⟩)
    have hw1 := HW1.out
    rw [hw1] at c0 c1 cb1 HX1 HH ⊢
    clear hw1 HW1 x0
    have x0 := HX0.out
    have x1n := HX1N.out
    have x1c := HX1C.out
    have y0 : 0 < 1 := Int.natCast_pos.1 x0
    have y1 : 1 ≤ 1 := y0
    have y2 : 1 ≤ 1 := Int.ofNat_le.1 x1c
    have K0 : Hid (∀ w', Below (w.heap.size + 1) w1 w' → w'.cell? ⟨w.heap.size, 0, none⟩ = some (.int .i64 k) ∧ w'.cell? ⟨w.heap.size, 1, none⟩ = some (.slice (some ⟨g, off, none⟩) 1 1) ∧ w'.cell? ⟨g, off, none⟩ = some (.int .u8 (b : Int)) ∧ Below (w.heap.size + 1) w1 w') := fun w' h => ⟨(Below.cell h (p := ⟨w.heap.size, 0, none⟩) (Nat.lt_succ_self _)).trans c0, (Below.cell h (p := ⟨w.heap.size, 1, none⟩) (Nat.lt_succ_self _)).trans c1, (Below.cell h (p := ⟨g, off, none⟩) (Nat.lt_succ_of_lt HGB.out)).trans cb1, h⟩
    have UC := Lib.hid (fun w' (h : Below (w.heap.size + 1) w1 w') => clb_any cs _ w' (HBU.out.ext (HX1.out.of_below h (Nat.le_succ _))))
    clear c0 c1 cb1
    go_region_held3 (fun w' => w'.cell? ⟨w.heap.size, 0, none⟩ = some (.int .i64 k) ∧ w'.cell? ⟨w.heap.size, 1, none⟩ = some (.slice (some ⟨g, off, none⟩) 1 1) ∧ w'.cell? ⟨g, off, none⟩ = some (.int .u8 (b : Int)) ∧ Below (w.heap.size + 1) w1 w')
      (first | assumption | (go_split_ands; exact K0.out _ (by repeat (first | exact Below.refl _ _ | assumption | refine Below.drew ?_ | refine below_setR ?_))))
      ((go_at_call 99; obtain ⟨_, _, _, hE1⟩ : _ ∧ _ ∧ _ ∧ Below (w.heap.size + 1) w1 _ := (by assumption); refine (UC.out _ hE1).mono ?_; rintro e wc ⟨cu, rfl, hown, hxc⟩; obtain ⟨ca, cm, cc, rfl⟩ := own_slcS hown; have HO := Lib.hid hown; have EC := ((Ext.refl w1).drew).trans hxc; have EB : Below (w.heap.size + 1) w1 wc := EC.mono (by rw [HSZ.out]; exact Nat.le_succ _); obtain ⟨⟨z0, z1, z2⟩, f0, f1, f2⟩ := HH.out.ext EC; clear hown hE1))
    have HEC := Lib.hid (HX1.out.trans EC)
    obtain ⟨y0, y1, y2⟩ := hd_cells (.int .i64 k) (.int .i64 (b : Int)) (.slice ca cm cc) z0 z1 z2
    go_wp2
    exact bodyPost_ret (v := .tuple #[.agg #[.int .i64 k, .int .i64 (b : Int), .slice ca cm cc], .nilIface]) (by simp [results, Tryz.results52, go_sem, y0, y1, y2]) rfl ⟨_, _, by rw [HV.out], by
      rw [HV.out]
      have hb : w.heap.size + 1 < w1.heap.size := by rw [HSZ.out]; exact Nat.lt_succ_self _
      exact Bys.of_owns (ownsRow_setCell_below (ownsRow_setCell_below (ownsRow_setCell_below HO.out (a := ⟨w.heap.size + 1, 0, none⟩) hb (.int .i64 k)) (a := ⟨w.heap.size + 1, 1, none⟩) hb (.int .i64 (b : Int))) (a := ⟨w.heap.size + 1, 2, none⟩) hb (.slice ca cm cc)) HLT.out (Nat.le_trans HCL.out (by decide)), by rw [HFF.out]; exact rfl, ((HEC.out.setCell (p := ⟨w.heap.size + 1, 0, none⟩) (Nat.le_succ _) _).setCell (p := ⟨w.heap.size + 1, 1, none⟩) (Nat.le_succ _) _).setCell (p := ⟨w.heap.size + 1, 2, none⟩) (Nat.le_succ _) _⟩
  · rw [if_neg hc1] at HBU
    have q16 : ¬ ((n : Nat) : Int) < 1 := by omega
    go_enter Tryz.func52, Tryz.ntmps52
    go_wp2_with (go_at_call 98; refine (has_yes k12 _).mono ?_; rintro e w' ⟨rfl, rfl⟩)
    have hw1 := HW1.out
    rw [hw1] at c0 c1 cb1 HX1 HH ⊢
    clear hw1 HW1 x0
    have x0 := HX0.out
    have x1n := HX1N.out
    have x1c := HX1C.out
    have y0 : 0 < n := Int.natCast_pos.1 x0
    have y1 : 1 ≤ n := y0
    have y2 : n ≤ cap := Int.ofNat_le.1 x1c
    have K0 : Hid (∀ w', Below (w.heap.size + 1) w1 w' → w'.cell? ⟨w.heap.size, 0, none⟩ = some (.int .i64 k) ∧ w'.cell? ⟨w.heap.size, 1, none⟩ = some (.slice (some ⟨g, off, none⟩) n cap) ∧ w'.cell? ⟨g, off, none⟩ = some (.int .u8 (b : Int)) ∧ Below (w.heap.size + 1) w1 w') := fun w' h => ⟨(Below.cell h (p := ⟨w.heap.size, 0, none⟩) (Nat.lt_succ_self _)).trans c0, (Below.cell h (p := ⟨w.heap.size, 1, none⟩) (Nat.lt_succ_self _)).trans c1, (Below.cell h (p := ⟨g, off, none⟩) (Nat.lt_succ_of_lt HGB.out)).trans cb1, h⟩
    have UC := Lib.hid (fun w' (h : Below (w.heap.size + 1) w1 w') => clb_any cs _ w' (HBU.out.ext (HX1.out.of_below h (Nat.le_succ _))))
    clear c0 c1 cb1
    go_region_held3 (fun w' => w'.cell? ⟨w.heap.size, 0, none⟩ = some (.int .i64 k) ∧ w'.cell? ⟨w.heap.size, 1, none⟩ = some (.slice (some ⟨g, off, none⟩) n cap) ∧ w'.cell? ⟨g, off, none⟩ = some (.int .u8 (b : Int)) ∧ Below (w.heap.size + 1) w1 w')
      (first | assumption | (go_split_ands; exact K0.out _ (by repeat (first | exact Below.refl _ _ | assumption | refine Below.drew ?_ | refine below_setR ?_))))
      ((go_at_call 99; obtain ⟨_, _, _, hE1⟩ : _ ∧ _ ∧ _ ∧ Below (w.heap.size + 1) w1 _ := (by assumption); refine (UC.out _ hE1).mono ?_; rintro e wc ⟨cu, rfl, hown, hxc⟩; obtain ⟨ca, cm, cc, rfl⟩ := own_slcS hown; have HO := Lib.hid hown; have EC := ((Ext.refl w1).drew).trans hxc; have EB : Below (w.heap.size + 1) w1 wc := EC.mono (by rw [HSZ.out]; exact Nat.le_succ _); obtain ⟨⟨z0, z1, z2⟩, f0, f1, f2⟩ := HH.out.ext EC; clear hown hE1))
    have HEC := Lib.hid (HX1.out.trans EC)
    obtain ⟨y0, y1, y2⟩ := hd_cells (.int .i64 k) (.int .i64 (b : Int)) (.slice ca cm cc) z0 z1 z2
    go_wp2
    exact bodyPost_ret (v := .tuple #[.agg #[.int .i64 k, .int .i64 (b : Int), .slice ca cm cc], .nilIface]) (by simp [results, Tryz.results52, go_sem, y0, y1, y2]) rfl ⟨_, _, by rw [HV.out], by
      rw [HV.out]
      have hb : w.heap.size + 1 < w1.heap.size := by rw [HSZ.out]; exact Nat.lt_succ_self _
      exact Bys.of_owns (ownsRow_setCell_below (ownsRow_setCell_below (ownsRow_setCell_below HO.out (a := ⟨w.heap.size + 1, 0, none⟩) hb (.int .i64 k)) (a := ⟨w.heap.size + 1, 1, none⟩) hb (.int .i64 (b : Int))) (a := ⟨w.heap.size + 1, 2, none⟩) hb (.slice ca cm cc)) HLT.out (Nat.le_trans HCL.out (by decide)), by rw [HFF.out]; exact rfl, ((HEC.out.setCell (p := ⟨w.heap.size + 1, 0, none⟩) (Nat.le_succ _) _).setCell (p := ⟨w.heap.size + 1, 1, none⟩) (Nat.le_succ _) _).setCell (p := ⟨w.heap.size + 1, 2, none⟩) (Nat.le_succ _) _⟩
end Go.Proofs.YtlaedbglclmheaaGreatDoor

/- Few coded frames: plain. -/
namespace Go.Proofs.YtlaedbglclmheaaGreatDoor
set_option linter.unusedVariables false
set_option linter.unusedSimpArgs false
open Go.RowKit Go.Extern.Stop Go.Stop Go.Extern
def cdN (L : List Cd) : Nat → Int
  | 0 => 0
  | k + 1 => cdN L k + min (((L.getD k (0, [])).2.length : Nat) : Int) 20001
theorem cdN_bound (L : List Cd) (k : Nat) : 0 ≤ cdN L k ∧ cdN L k ≤ 20001 * k := by
  induction k with
  | zero => simp [cdN]
  | succ k ih => unfold cdN; push_cast; omega
theorem cdN_mono (L : List Cd) {i j : Nat} (h : i ≤ j) : cdN L i ≤ cdN L j := by
  obtain ⟨d, rfl⟩ := Nat.le.dest h
  clear h
  induction d with
  | zero => exact Int.le_refl _
  | succ d ih => rw [← Nat.add_assoc]; show cdN L i ≤ cdN L (i + d) + min _ _; omega
def fewC (L : List Cd) : Bool := decide (L.length ≤ 40) && decide (cdN L (min L.length 40) ≤ 20000)
theorem fewC_out {L : List Cd} (h : fewC L = true) : L.length ≤ 40 ∧ ∀ (q : Nat) (c : Cd), L[q]? = some c → c.2.length ≤ 20000 := by
  unfold fewC at h
  rw [Bool.and_eq_true, decide_eq_true_eq, decide_eq_true_eq] at h
  refine ⟨h.1, fun q c hq => ?_⟩
  have hlt := (List.getElem?_eq_some_iff.1 hq).1
  have h1 := cdN_mono L (show q + 1 ≤ min L.length 40 by omega)
  have h2 := (cdN_bound L q).1
  have e : cdN L (q + 1) = cdN L q + min ((c.2.length : Nat) : Int) 20001 := by show cdN L q + _ = _; rw [List.getD, hq]; rfl
  omega
end Go.Proofs.YtlaedbglclmheaaGreatDoor
