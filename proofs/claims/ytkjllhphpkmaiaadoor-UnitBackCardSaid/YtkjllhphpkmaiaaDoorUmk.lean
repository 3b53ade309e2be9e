/- unit.Make: its contract over this seat's translation. -/
import Derived.Test.YtkjllhphpkmaiaaDoorUsm
import Derived.Test.YtkjllhphpkmaiaaDoorUbs
import Derived.Test.YtkjllhphpkmaiaaDoorFall
namespace Go.Proofs.YtkjllhphpkmaiaaDoor
set_option linter.unusedVariables false
set_option linter.unusedSimpArgs false
open Go.RowKit Go.Extern.Stop Go.Stop Go.Extern

/-- why no unit is made; its head; its bytes -/
def ukF (kind : Int) (n : Nat) : Fall := if kind < 0 ∨ 255 < kind ∨ (kind = 0 ∧ 0 < n) then some ([], 13) else if 65536 < n then some ([], 5) else none
def hdB (kind : Nat) (data : List Nat) : List Nat := kind :: (be3 data.length ++ data)
def encB (kind : Nat) (data : List Nat) : List Nat := if kind = 0 then [0] else hdB kind data ++ be4 (crc (hdB kind data))
def ukV (kind : Int) (data : List Nat) : List Nat := match ukF kind data.length with
  | none => encB kind.toNat data
  | some _ => []
theorem hdB_len (kind : Nat) (data : List Nat) : (hdB kind data).length = data.length + 4 := by unfold hdB be3; simp
theorem hdB_lt {kind : Nat} {data : List Nat} (hk : kind < 256) (hd : ∀ x ∈ data, x < 256) (hl : data.length ≤ 65536) : ∀ x ∈ hdB kind data, x < 256 := by
  intro x hx
  unfold hdB at hx
  rcases List.mem_cons.1 hx with rfl | hx
  · exact hk
  · rcases List.mem_append.1 hx with hx | hx
    · exact be3_lt (by omega) x hx
    · exact hd x hx
theorem encB_lt {kind : Nat} {data : List Nat} (hk : kind < 256) (hd : ∀ x ∈ data, x < 256) (hl : data.length ≤ 65536) : ∀ x ∈ encB kind data, x < 256 := by
  intro x hx
  unfold encB at hx
  split at hx
  · simp at hx; omega
  · rcases List.mem_append.1 hx with hx | hx
    · exact hdB_lt hk hd hl x hx
    · exact be4_lt (crc_lt (hdB_lt hk hd hl)) x hx
theorem encB_len {kind : Nat} {data : List Nat} : (encB kind data).length = if kind = 0 then 1 else data.length + 8 := by
  unfold encB
  split
  · rfl
  · rw [List.length_append, hdB_len]; rfl
/-- bytes of the call's own and an error -/
def MPost (w : World) (bs : List Nat) (f : Fall) (e : Ending) (w' : World) : Prop := ∃ u x, e = .returned (.tuple #[u, x]) ∧ w'.ownsRow w.heap.size 5 1 u bs.length (byC bs) ∧ ErrIs w' f x ∧ Ext w w'
set_option maxHeartbeats 8000000 in
set_option maxRecDepth 20000 in
theorem make_any (kind : Int) (data : List Nat) (v : Value) (w : World) (hn : NbIs w) (h : Bys w v data) (hp : Plain v) : Calls Tryd.prog 12 #[.int .i64 kind, v] w (MPost w (ukV kind data) (ukF kind data.length)) := by
  obtain ⟨a, cap, rfl⟩ := h.form
  have HB := Lib.hid h
  have hl := h.2.2
  have HD := Lib.hid h.2.1
  obtain ⟨n, hn'⟩ : ∃ n, data.length = n := ⟨_, rfl⟩
  have HN := Lib.hid hn'
  have HB2 : Hid (Bys w (.slice a n cap) data) := by show Bys _ _ _; rw [← hn']; exact h
  have HP : Hid (Plain (.slice a n cap)) := by show Plain _; rw [← hn']; exact hp
  rw [hn'] at hl ⊢
  clear h hn' hp
  by_cases h1 : kind < 0
  · have HF : Hid (ukF kind n = some ([], 13)) := by show _ = _; unfold ukF; rw [if_pos (.inl h1)]
    have HV : Hid (ukV kind data = []) := by show _ = _; unfold ukV; rw [HN.out, HF.out]
    go_enter Tryd.func12, Tryd.ntmps12
    go_wp2
    go_ret2
    exact ⟨_, _, rfl, by rw [HV.out]; exact World.ownsRow_nil _ _ _ _, by rw [HF.out]; exact ErrIs.code (by decide), Ext.refl _⟩
  · by_cases h2 : 255 < kind
    · have HF : Hid (ukF kind n = some ([], 13)) := by show _ = _; unfold ukF; rw [if_pos (.inr (.inl h2))]
      have HV : Hid (ukV kind data = []) := by show _ = _; unfold ukV; rw [HN.out, HF.out]
      go_enter Tryd.func12, Tryd.ntmps12
      go_wp2
      go_ret2
      exact ⟨_, _, rfl, by rw [HV.out]; exact World.ownsRow_nil _ _ _ _, by rw [HF.out]; exact ErrIs.code (by decide), Ext.refl _⟩
    · by_cases h0 : kind = 0
      · subst h0
        by_cases h3 : 0 < n
        · have HF : Hid (ukF 0 n = some ([], 13)) := by show _ = _; unfold ukF; rw [if_pos (.inr (.inr ⟨rfl, h3⟩))]
          have h3' : (0 : Int) < (n : Int) := by omega
          have HV : Hid (ukV 0 data = []) := by show _ = _; unfold ukV; rw [HN.out, HF.out]
          go_enter Tryd.func12, Tryd.ntmps12
          go_wp2
          go_ret2
          exact ⟨_, _, rfl, by rw [HV.out]; exact World.ownsRow_nil _ _ _ _, by rw [HF.out]; exact ErrIs.code (by decide), Ext.refl _⟩
        · obtain rfl : n = 0 := by omega
          have HF : Hid (ukF 0 0 = none) := by show _ = _; decide
          have HV : Hid (ukV 0 data = [0]) := by show _ = _; unfold ukV; rw [HN.out, HF.out]; rfl
          have HO : Hid ((w.alloc (.cells #[.int .u8 0] 5)).ownsRow w.heap.size 5 1 (.slice (some ⟨w.heap.size, 0, none⟩) 1 1) 1 (byC [0])) := ⟨rfl, .inr ⟨w.heap.size, 1, #[.int .u8 0], rfl, Nat.le_refl _, heap_alloc_new w _, Nat.le_refl _, by decide, rfl, rfl⟩⟩
          go_enter Tryd.func12, Tryd.ntmps12
          go_wp2
          go_ret2
          exact ⟨_, _, rfl, by rw [HV.out]; exact HO.out, by rw [HF.out]; rfl, (Ext.refl w).alloc _⟩
      · obtain ⟨k, rfl⟩ : ∃ k : Nat, kind = (k : Int) := ⟨kind.toNat, by omega⟩
        have k0 : ((k : Int) == 0) = false := by rw [beq_eq_false_iff_ne]; omega
        by_cases h4 : 65536 < n
        · have HF : Hid (ukF (k : Int) n = some ([], 5)) := by show _ = _; unfold ukF; rw [if_neg (by omega), if_pos h4]
          have h4' : (65536 : Int) < (n : Int) := by omega
          have HV : Hid (ukV (k : Int) data = []) := by show _ = _; unfold ukV; rw [HN.out, HF.out]
          go_enter Tryd.func12, Tryd.ntmps12
          go_wp2
          go_ret2
          exact ⟨_, _, rfl, by rw [HV.out]; exact World.ownsRow_nil _ _ _ _, by rw [HF.out]; exact ErrIs.code (by decide), Ext.refl _⟩
        · have HF : Hid (ukF (k : Int) n = none) := by show _ = _; unfold ukF; rw [if_neg (by omega), if_neg h4]
          have HV : Hid (ukV (k : Int) data = hdB k data ++ be4 (crc (hdB k data))) := by show _ = _; unfold ukV; rw [HN.out, HF.out]; show encB _ _ = _; unfold encB; rw [if_neg (by omega)]; rfl
          obtain ⟨i0, hi, hz0, hz1, hz2⟩ := info_parts infoU8
          have hhl := hdB_lt (kind := k) (data := data) (by omega) HD.out (by rw [HN.out]; omega)
          have hs := crc_lt hhl
          have HHL := Lib.hid hhl
          have HH : Hid (hdB k data = [k, n / 65536, n / 256 % 256, n % 256] ++ data) := by show _ = _; unfold hdB be3; rw [HN.out]; rfl
          have HLN : Hid ((hdB k data).length = n + 4) := by show _ = _; rw [hdB_len, HN.out]
          obtain ⟨hd, hhd⟩ : ∃ hd, hdB k data = hd := ⟨_, rfl⟩
          rw [hhd] at HV HH HHL HLN hs
          obtain ⟨s, hss⟩ : ∃ s, crc hd = s := ⟨_, rfl⟩
          have HSS := Lib.hid hss
          rw [hss] at hs
          have HB4 : Hid (be4 s = [s / 16777216, s / 65536 % 256, s / 256 % 256, s % 256]) := rfl
          rw [hss] at HV
          obtain ⟨p1, e1⟩ : ∃ p1, n / 65536 = p1 := ⟨_, rfl⟩
          obtain ⟨q1, f1⟩ : ∃ q1, n / 256 = q1 := ⟨_, rfl⟩
          obtain ⟨p2, e2⟩ : ∃ p2, q1 % 256 = p2 := ⟨_, rfl⟩
          obtain ⟨p3, e3⟩ : ∃ p3, n % 256 = p3 := ⟨_, rfl⟩
          rw [e1, f1, e2, e3] at HH
          have m1 : (n : Int) / 65536 = (p1 : Int) := by omega
          have m2 : (n : Int) / 256 = (q1 : Int) := by omega
          have m3 : IntKind.u8.wrap (p1 : Int) = (p1 : Int) := by rw [IntKind.wrap_u8]; omega
          have m4 : IntKind.u8.wrap (q1 : Int) = (p2 : Int) := by rw [IntKind.wrap_u8]; omega
          have m5 : IntKind.u8.wrap (n : Int) = (p3 : Int) := by rw [IntKind.wrap_u8]; omega
          have m6 : IntKind.u8.wrap (k : Int) = (k : Int) := by rw [IntKind.wrap_u8]; omega
          have m7 : IntKind.i64.wrap (p1 : Int) = (p1 : Int) := by rw [IntKind.wrap_i64]; omega
          have m8 : IntKind.i64.wrap (q1 : Int) = (q1 : Int) := by rw [IntKind.wrap_i64]; omega
          obtain ⟨s1, g1⟩ : ∃ s1, s / 16777216 = s1 := ⟨_, rfl⟩
          obtain ⟨t2, g2⟩ : ∃ t2, s / 65536 = t2 := ⟨_, rfl⟩
          obtain ⟨s2, g3⟩ : ∃ s2, t2 % 256 = s2 := ⟨_, rfl⟩
          obtain ⟨t3, g4⟩ : ∃ t3, s / 256 = t3 := ⟨_, rfl⟩
          obtain ⟨s3, g5⟩ : ∃ s3, t3 % 256 = s3 := ⟨_, rfl⟩
          obtain ⟨s4, g6⟩ : ∃ s4, s % 256 = s4 := ⟨_, rfl⟩
          rw [g1, g2, g3, g4, g5, g6] at HB4
          have o1 : (s : Int) / 16777216 = (s1 : Int) := by omega
          have o2 : (s : Int) / 65536 = (t2 : Int) := by omega
          have o3 : (s : Int) / 256 = (t3 : Int) := by omega
          have o4 : IntKind.u8.wrap (s1 : Int) = (s1 : Int) := by rw [IntKind.wrap_u8]; omega
          have o5 : IntKind.u8.wrap (t2 : Int) = (s2 : Int) := by rw [IntKind.wrap_u8]; omega
          have o6 : IntKind.u8.wrap (t3 : Int) = (s3 : Int) := by rw [IntKind.wrap_u8]; omega
          have o7 : IntKind.u8.wrap (s : Int) = (s4 : Int) := by rw [IntKind.wrap_u8]; omega
          have o8 : IntKind.u32.wrap (s1 : Int) = (s1 : Int) := by rw [IntKind.wrap_u32]; omega
          have o9 : IntKind.u32.wrap (t2 : Int) = (t2 : Int) := by rw [IntKind.wrap_u32]; omega
          have oA : IntKind.u32.wrap (t3 : Int) = (t3 : Int) := by rw [IntKind.wrap_u32]; omega
          have n4 : ¬ (65536 : Int) < (n : Int) := by omega
          have SZ := Lib.hid (fun w => size_any (n : Int) w (by omega))
          have HNB := Lib.hid hn
          clear hhl hhd hss e1 f1 e2 e3 g1 g2 g3 g4 g5 g6 hn
          have hn8 : ((n : Int) + 8) = ((n + 8 : Nat) : Int) := by omega
          rw [hn8] at SZ
          obtain ⟨n8, e8⟩ : ∃ n8, n + 8 = n8 := ⟨_, rfl⟩
          rw [e8] at SZ
          have hn8b : n8 ≤ 65544 := by omega
          clear hn8 e8
          go_enter Tryd.func12, Tryd.ntmps12
          go_wp2_with (first
            | (go_at_call 19; refine (SZ.out _).mono ?_; rintro e w1 ⟨rfl, rfl⟩)
            | (go_at_call 17; refine (sum_any hd _ _ (HNB.out.ext HE6.out) HY6.out).mono ?_; rintro e w9 ⟨rfl, rfl⟩; rw [HSS.out])
            | (at_make; refine wpList_make_own _ rfl _ _ 22 rfl w.heap.size 5 i0 (.int .u8 0) 1 Tryd.underlying22 hi hz0 hz1 .i64 .i64 _ n8 rfl rfl rfl (by rw [hz2]; omega) (by unfold maxLen; omega) (Nat.le_refl _) ?_; intro w4 h1 h2; have HO4 := Lib.hid h1; have HE4 := Lib.hid (Below.grown (Ext.refl w) h2 (Nat.le_refl _) (fun k hk => by cases hk)); have hs4 := h2.size; clear h1 h2)
            | (at_builtin; refine app_new rfl _ _ 22 rfl Tryd.underlying22 _ 0 [] [k, p1, p2, p3] rfl HO4.out (by show Value.slice (some ⟨w4.heap.size, 0, none⟩) 4 4 = _; simp) (by simp) hs4 (by simp) ?_; intro g5 cap5 w5 h1 h2; have HO5 := Lib.hid h1; have HE5 := Lib.hid (own_grow HO4.out h2 HE4.out (Nat.le_refl _)); have hs5 := Nat.le_trans hs4 h2.size; clear h1 h2)
            | (at_builtin; refine app_bys rfl _ _ 22 rfl Tryd.underlying22 _ 4 [k, p1, p2, p3] data _ rfl HO5.out rfl (HB2.out.ext HE5.out) HP.out hs5 (by decide) (by rw [HN.out]; omega) ?_; rw [HN.out]; intro g6 cap6 w6 h1 h2; have HO6 : Hid (w6.ownsRow w.heap.size 5 1 (.slice (some ⟨g6, 0, none⟩) (4 + n) cap6) (4 + n) (byC hd)) := (by show World.ownsRow _ _ _ _ _ _ _; rw [HH.out]; exact h1); have HE6 := Lib.hid (own_grow HO5.out h2 HE5.out (Nat.le_refl _)); have hs6 := Nat.le_trans hs5 h2.size; have HY6 : Hid (Bys w6 (.slice (some ⟨g6, 0, none⟩) (4 + n) cap6) hd) := Bys.of_owns HO6.out HHL.out (by rw [HLN.out]; omega); clear h1 h2)
            | (at_builtin; refine app_new rfl _ _ 22 rfl Tryd.underlying22 _ (4 + n) hd [s1, s2, s3, s4] rfl HO6.out (by show Value.slice (some ⟨w6.heap.size, 0, none⟩) 4 4 = _; simp) (by simp) hs6 (by simp; omega) ?_; intro g7 cap7 w7 h1 h2; have HO7 := Lib.hid h1; have HE7 := Lib.hid (own_grow HO6.out h2 HE6.out (Nat.le_refl _)); clear h1 h2))
          go_ret2
          refine ⟨_, _, rfl, ?_, by rw [HF.out]; rfl, HE7.out⟩
          have h7 := HO7.out
          rw [HV.out, HB4.out]
          have e7 : (hd ++ [s1, s2, s3, s4]).length = 4 + n + 4 := by rw [List.length_append, HLN.out]; simp; omega
          rw [e7]
          exact h7
end Go.Proofs.YtkjllhphpkmaiaaDoor
