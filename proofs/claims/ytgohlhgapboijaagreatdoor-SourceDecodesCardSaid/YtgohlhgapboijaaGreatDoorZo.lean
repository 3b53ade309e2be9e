/- Contracts of this seat: Br1, Br2, Bl5, CoB. -/
import Derived.Test.YtgohlhgapboijaaGreatDoorZe
import Derived.Test.YtgohlhgapboijaaGreatDoorZg
import Derived.Deep.RegionHeld3
import Derived.Test.YtgohlhgapboijaaGreatDoorZf
/- kinref2.Reader: contracts over this seat's translation. -/
namespace Go.Proofs.YtgohlhgapboijaaGreatDoor
set_option linter.unusedVariables false
set_option linter.unusedSimpArgs false
open Go.RowKit Go.Extern.Stop Go.Stop Go.Extern

theorem ofInt8_one : BitVec.ofInt 8 1 = 1#8 := by decide
theorem and_one8 (x : Nat) (hx : x < 256) : bits .and .u8 (x : Int) 1 = ((x % 2 : Nat) : Int) := by
  have e : (BitVec.ofInt 8 (x : Int) &&& BitVec.ofInt 8 1).toNat = x % 2 := by
    rw [ofInt8_nat, ofInt8_one, BitVec.toNat_and, BitVec.toNat_ofNat, Nat.mod_eq_of_lt (by omega)]
    exact Nat.and_one_is_mod x
  show IntKind.u8.wrap (((BitVec.ofInt 8 (x : Int) &&& BitVec.ofInt 8 1).toNat : Nat) : Int) = _
  rw [e, IntKind.wrap_u8]
  omega
theorem Kp.fresh {b : Nat} {u v : World} (h : Kp b u v) {R : Nat} (hR : u.heap.size ≤ R) (o : Nat) (x : Value) : Kp b u (v.setCell ⟨R, o, none⟩ x) := by
  obtain ⟨h1, h2, h3, h4, h5⟩ := h
  exact ⟨h1, h2, h3, Nat.le_trans h4 (by simp), fun i hi hn => (Below.heap_setCell v ⟨R, o, none⟩ x i (show i ≠ R by omega)).trans (h5 i hi hn)⟩
/-- a reader of the document's: its bytes lie below B0 -/
def RqAt (w : World) (b : Nat) (bs : List Nat) (p B0 : Nat) : Prop := ∃ a cap, RdBox w b (.slice a bs.length cap) p ∧ Bys w (.slice a bs.length cap) bs ∧ (0 < bs.length → ∀ g off, a = some ⟨g, off, none⟩ → g < B0) ∧ B0 ≤ b
theorem RqAt.lt {w : World} {b p B0 : Nat} {bs : List Nat} (h : RqAt w b bs p B0) : b < w.heap.size := by
  obtain ⟨_, _, h1, -⟩ := h
  exact Ext.lt (p := ⟨b, 0, none⟩) h1.1
theorem RqAt.base {w : World} {b p B0 : Nat} {bs : List Nat} (h : RqAt w b bs p B0) : B0 ≤ b := by
  obtain ⟨_, _, -, -, -, h4⟩ := h
  exact h4
theorem RqAt.mono {w w' : World} {b p B0 : Nat} {bs : List Nat} (h : RqAt w b bs p B0) (k : ∀ i, i < B0 → w'.heap[i]? = w.heap[i]?) (kb : w'.heap[b]? = w.heap[b]?) : RqAt w' b bs p B0 := by
  obtain ⟨a, cap, ⟨c0, c1, f1⟩, ⟨⟨a', cap', e, h1, h2, h3, h4⟩, h5⟩, h6, h7⟩ := h
  refine ⟨a, cap, ⟨(World.cell?_of_block (a := ⟨b, 0, none⟩) kb).trans c0, (World.cell?_of_block (a := ⟨b, 1, none⟩) kb).trans c1, (World.frozen?_of_block (a := ⟨b, 1, none⟩) kb).trans f1⟩, ⟨⟨a', cap', e, h1, h2, h3, fun g off ha j u hu => ?_⟩, h5⟩, h6, h7⟩
  simp only [Value.slice.injEq] at e
  obtain ⟨rfl, -, -⟩ := e
  have hj : j < bs.length := by have := (List.getElem?_eq_some_iff.1 hu).1; simpa using this
  exact (World.cell?_of_block (a := ⟨g, off + j, none⟩) (k g (h6 (by omega) g off ha))).trans (h4 g off ha j u hu)
theorem RqAt.ext {w w' : World} {b p B0 : Nat} {bs : List Nat} (h : RqAt w b bs p B0) (k : Ext w w') : RqAt w' b bs p B0 :=
  h.mono (fun i hi => k.block (by have := h.lt; have := h.base; omega)) (k.block h.lt)
theorem RqAt.kp {w w' : World} {b c p B0 : Nat} {bs : List Nat} (h : RqAt w b bs p B0) (k : Kp c w w') (hc : B0 ≤ c) (hb : b ≠ c) : RqAt w' b bs p B0 :=
  h.mono (fun i hi => k.block (by have := h.lt; have := h.base; omega) (by omega)) (k.block h.lt hb)
theorem RqAt.set {w : World} {b p B0 : Nat} {bs : List Nat} (h : RqAt w b bs p B0) (q : Nat) : RqAt (w.setCell ⟨b, 1, none⟩ (.int .i64 (q : Int))) b bs q B0 := by
  obtain ⟨a, cap, h1, ⟨⟨a', cap', e, g1, g2, g3, g4⟩, h5⟩, h6, h7⟩ := h
  refine ⟨a, cap, h1.set q, ⟨⟨a', cap', e, g1, g2, g3, fun g off ha j u hu => ?_⟩, h5⟩, h6, h7⟩
  have hj : j < bs.length := by have := (List.getElem?_eq_some_iff.1 hu).1; simpa using this
  simp only [Value.slice.injEq] at e
  obtain ⟨rfl, -, -⟩ := e
  have hg := h6 (by omega) g off ha
  exact (World.cell?_setCell_other w ⟨b, 1, none⟩ ⟨g, off + j, none⟩ (.int .i64 (q : Int)) (by first | (simp; done) | (simp; omega))).trans (g4 g off ha j u hu)
theorem RqAt.fresh {w : World} {b p B0 : Nat} {bs : List Nat} (h : RqAt w b bs p B0) {R : Nat} (hR : B0 ≤ R) (hb : b ≠ R) (o : Nat) (x : Value) : RqAt (w.setCell ⟨R, o, none⟩ x) b bs p B0 := h.kp ((Kp.refl R w).set o x) hR hb
/-- a number and an error, the reader's place -/
def RqPost (w : World) (b B0 : Nat) (bs : List Nat) (v : Int) (q : Nat) (f : Fall) (e : Ending) (w' : World) : Prop := ∃ c u, e = .returned (.tuple #[.int .i64 v, .agg #[.int .i64 c, u]]) ∧ Kp b w w' ∧ RqAt w' b bs q B0 ∧ RErrIs w' f c u
set_option maxRecDepth 20000 in
theorem rqleft_any (b p B0 : Nat) (bs : List Nat) (w : World) (h : RqAt w b bs p B0) (hp : p ≤ 8 * bs.length) :
    Calls Tryz.prog 42  #[.pointer (some ⟨b, 0, none⟩)] w fun e w' => e = .returned (.int .i64 ((8 * bs.length - p : Nat) : Int)) ∧ Ext w w' := by
  obtain ⟨a, cap, ⟨h0, h1, h2⟩, ⟨-, -, hl⟩, -⟩ := h
  obtain ⟨n, hn⟩ : ∃ n, n = bs.length := ⟨_, rfl⟩
  rw [← hn] at h0 hp hl ⊢
  have e1 : IntKind.i64.wrap (8 * (n : Int)) = 8 * (n : Int) := by rw [IntKind.wrap_i64]; omega
  have e2 : IntKind.i64.wrap (8 * (n : Int) - (p : Int)) = ((8 * n - p : Nat) : Int) := by rw [IntKind.wrap_i64]; omega
  clear hn
  go_enter Tryz.func42, Tryz.ntmps42
  go_wp2_with fail
  go_quiet (fail)
  go_wp2
  go_ret
  exact ⟨rfl, (Ext.refl w).drewN _⟩
theorem ResAt.kpR {w w' : World} {b B : Nat} (h : ResAt w B) (k : Kp b w w') (hb : B ≠ b) : ResAt w' B :=
  ⟨k.cell h.1 hb, k.cell h.2.1 hb, (k.frozen (p := ⟨B, 0, none⟩) (Ext.lt (p := ⟨B, 0, none⟩) h.1) hb).trans h.2.2.1, (k.frozen (p := ⟨B, 1, none⟩) (Ext.lt (p := ⟨B, 1, none⟩) h.2.1) hb).trans h.2.2.2⟩
set_option maxHeartbeats 4000000 in
set_option maxRecDepth 20000 in
theorem rqget_yes (b p N B0 : Nat) (bs : List Nat) (w : World) (h : RqAt w b bs p B0) (hp : p + N ≤ 8 * bs.length) (hN : N ≤ 32) :
    Calls Tryz.prog 69 #[.pointer (some ⟨b, 0, none⟩), .int .i64 (N : Int)] w (RqPost w b B0 bs (nmN bs p N : Nat) (p + N) none) := by
  have L := Lib.hid (fun w (h : RqAt w b bs p B0) => rqleft_any b p B0 bs w h (by omega))
  have HR := Lib.hid h
  have hbw : b < w.heap.size := h.lt
  have hb0 : B0 ≤ b := h.base
  have hl : bs.length ≤ 140737488355328 := by obtain ⟨_, _, _, ⟨-, -, hl⟩, -⟩ := h; exact hl
  obtain ⟨D, hD⟩ : ∃ D, 8 * bs.length - p = D := ⟨_, rfl⟩
  rw [hD] at L
  have d1 : ¬ (D : Int) < (N : Int) := by omega
  clear h hD
  go_enter Tryz.func69, Tryz.ntmps69
  go_wp2_with fail
  refine (L.out _ (HR.out.ext ((Ext.refl w).alloc _))).mono ?_; rintro e w1 ⟨rfl, hx1⟩
  have E1 := ((Ext.refl w).alloc (.cells #[.int .i64 0, .slice none 0 0] 34)).trans hx1
  have RS1 := Lib.hid ((ResAt.new w).ext hx1)
  have HR1 := Lib.hid (HR.out.ext E1)
  have K1 := Lib.hid (Kp.of_ext (b := b) E1)
  clear HR hx1 L E1
  go_wp2_with fail
  go_loopw [6, 7] (fun vv iv wr => ∃ k : Nat, k ≤ N ∧ vv = .int .i64 ((nmN bs p k : Nat) : Int) ∧ iv = .int .i64 (k : Int) ∧ Hid (RqAt wr b bs (p + k) B0) ∧ Hid (Kp b w wr) ∧ Hid (ResAt wr w.heap.size)) (fun _ iv _ => N - (intOf iv).toNat)
  case atStart => exact ⟨0, Nat.zero_le _, rfl, rfl, HR1.out, K1.out, RS1.out⟩
  case round =>
    clear HR1 K1 RS1
    obtain ⟨k, hk, rfl, rfl, HR, HK, HS⟩ := hrel
    by_cases hlt : k < N
    · obtain ⟨a, cap, ⟨c0, c1, f1⟩, hB, hne⟩ := HR.out
      obtain ⟨P, hP⟩ : ∃ P, P = p + k := ⟨_, rfl⟩
      obtain ⟨q, hq⟩ : ∃ q, q = P / 8 := ⟨_, rfl⟩
      obtain ⟨r, hr⟩ : ∃ r, r = P % 8 := ⟨_, rfl⟩
      obtain ⟨s, hs⟩ : ∃ s, s = 7 - r := ⟨_, rfl⟩
      have hq1 : q < bs.length := by omega
      obtain ⟨g, off, rfl⟩ := hB.had (by omega)
      have cB := hB.at (nget_of_lt hq1)
      have hBl := hB.lt q
      have hadd := nmN_add bs p k 1
      have hv := nmN_lt bs p k
      have hv2 := nmN_lt bs p (k + 1)
      rw [← hP, nmN_one] at hadd
      unfold btN at hadd
      rw [← hq, ← hr, ← hs] at hadd
      rw [← hP] at c1
      obtain ⟨B, hBB⟩ : ∃ B, bs.getD q 0 = B := ⟨_, rfl⟩
      rw [hBB] at cB hBl hadd
      obtain ⟨x, hx⟩ : ∃ x, B / 2 ^ s = x := ⟨_, rfl⟩
      obtain ⟨y, hy⟩ : ∃ y, x % 2 = y := ⟨_, rfl⟩
      rw [hx, hy] at hadd
      obtain ⟨V, hV⟩ : ∃ V, nmN bs p k = V := ⟨_, rfl⟩
      obtain ⟨V2, hV2⟩ : ∃ V2, nmN bs p (k + 1) = V2 := ⟨_, rfl⟩
      rw [hV] at hv hadd ⊢
      rw [hV2] at hv2 hadd
      have hxB : x ≤ B := by rw [← hx]; exact Nat.div_le_self _ _
      have hVb : V2 < 2 ^ 32 := Nat.lt_of_lt_of_le hv2 (Nat.pow_le_pow_right (by decide) (by omega))
      have b1 := and_one8 x (by omega)
      rw [hy] at b1
      obtain ⟨Z, hZ⟩ : ∃ Z, 2 * V = Z := ⟨_, rfl⟩
      have i1 : (P : Int) % 8 = (r : Int) := by omega
      have i2 : Int.tmod (P : Int) 8 = (r : Int) := by rw [Int.tmod_eq_emod_of_nonneg (by omega)]; exact i1
      have i3 : Int.tdiv (P : Int) 8 = (q : Int) := by rw [Int.tdiv_eq_ediv_of_nonneg (by omega)]; omega
      have i4 : (P : Int) / 8 = (q : Int) := by omega
      have i5 : IntKind.i64.wrap (7 - (r : Int)) = (s : Int) := by rw [IntKind.wrap_i64]; omega
      have i6 : (7 : Int) - (r : Int) = (s : Int) := by omega
      have i7 : IntKind.u64.wrap (s : Int) = (s : Int) := by rw [IntKind.wrap_u64]; omega
      have j1 : (B : Int) / 2 ^ s = (x : Int) := by rw [← hx]; simp
      have j2 : IntKind.u8.wrap (x : Int) = (x : Int) := by rw [IntKind.wrap_u8]; omega
      have j3 : IntKind.i64.wrap (y : Int) = (y : Int) := by rw [IntKind.wrap_i64]; omega
      have j4 : IntKind.i64.wrap (2 * (V : Int)) = (Z : Int) := by rw [IntKind.wrap_i64]; omega
      have j5 : IntKind.i64.wrap ((Z : Int) + (y : Int)) = (V2 : Int) := by rw [IntKind.wrap_i64]; omega
      have j9 : IntKind.i64.wrap ((P : Int) + 1) = ((P + 1 : Nat) : Int) := by rw [IntKind.wrap_i64]; omega
      have q1 : (0 : Int) ≤ (q : Int) := by omega
      have q2 : (q : Int) < (bs.length : Int) := by omega
      have m1 : (k : Int) < (N : Int) := by omega
      have HE : Hid (V2 = nmN bs p (k + 1) ∧ P + 1 = p + (k + 1) ∧ k + 1 ≤ N) := ⟨hV2.symm, by omega, by omega⟩
      have d9 : (0 : Int) ≤ (s : Int) ∧ (s : Int) ≤ 64 := by omega
      have hPP := Lib.hid hP.symm
      clear hP hq hr hs hadd hv hv2 hx hy hV hV2 hZ hB hBB hne
      go_wp2_with fail
      go_quiet (fail)
      have D1 : Ext wr (wr.drewN nq) := (Ext.refl wr).drewN _
      have HR2 := Lib.hid (HR.out.ext D1)
      have K2 := Lib.hid (HK.out.ext D1)
      have S2 := Lib.hid (HS.out.ext D1)
      clear HR HK HS D1 c0 c1 f1 cB
      revert HR2 K2 S2
      generalize wr.drewN nq = wq
      intro HR2 K2 S2
      obtain ⟨a, cap, ⟨c0, c1, f1⟩, -, -⟩ := HR2.out
      rw [hPP.out] at c1
      go_wp2
      go_roundw
      case rel => exact ⟨k + 1, HE.out.2.2, by rw [HE.out.1], by go_num, by rw [← HE.out.2.1]; exact HR2.out.set _, K2.out.set 1 _, S2.out.kpR ((Kp.refl b wq).set 1 _) (by omega)⟩
      case measure => simp [intOf]; omega
    · obtain rfl : k = N := by omega
      obtain ⟨g0, g1, g2, g3⟩ := HS.out
      go_wp2
      obtain ⟨e0, e1⟩ := res_cells g0 g1 (c := 0) (.slice none 0 0)
      exact bodyPost_ret (v := .tuple #[.int .i64 ((nmN bs p k : Nat) : Int), .agg #[.int .i64 0, .slice none 0 0]]) (by simp [results, Tryz.results69, go_sem, e0, e1]) rfl ⟨0, .slice none 0 0, rfl, (HK.out.fresh (Nat.le_refl _) 0 _).fresh (Nat.le_refl _) 1 _, (HR.out.fresh (R := w.heap.size) (by omega) (by omega) 0 _).fresh (R := w.heap.size) (by omega) (by omega) 1 _, rfl, rfl⟩
set_option maxHeartbeats 4000000 in
set_option maxRecDepth 20000 in
theorem rqget_any (b p B0 : Nat) (n : Int) (bs : List Nat) (w : World) (h : RqAt w b bs p B0) (hp : p ≤ 8 * bs.length) :
    Calls Tryz.prog 69 #[.pointer (some ⟨b, 0, none⟩), .int .i64 n] w (RqPost w b B0 bs (rdV bs p n) (rdP bs p n) (rdF bs p n)) := by
  by_cases h1 : n < 0
  · have HR : Hid (rdF bs p n = range) := by show _ = _; unfold rdF; rw [if_neg (by omega)]
    have HV : Hid (rdV bs p n = 0 ∧ rdP bs p n = p) := by unfold rdV rdP; rw [HR.out]; exact ⟨rfl, rfl⟩
    go_enter Tryz.func69, Tryz.ntmps69
    go_wp2_with fail
    refine (fail_any 3 _).mono ?_; rintro e w1 ⟨rfl, hx1⟩
    have R1 := (ResAt.new w).ext hx1
    obtain ⟨g0, g1, g2, g3⟩ := R1
    have E1 := ((Ext.refl w).alloc (.cells #[.int .i64 0, .slice none 0 0] 34)).trans hx1
    have E2 : Ext w ((w1.setCell ⟨w.heap.size, 0, none⟩ (.int .i64 3)).setCell ⟨w.heap.size, 1, none⟩ (.slice none 0 0)) := (E1.setCell (p := ⟨w.heap.size, 0, none⟩) (Nat.le_refl _) _).setCell (p := ⟨w.heap.size, 1, none⟩) (Nat.le_refl _) _
    have HE2 := Lib.hid E2
    clear E1 E2
    go_wp2
    obtain ⟨e0, e1⟩ := res_cells g0 g1 (c := 3) (.slice none 0 0)
    exact bodyPost_ret (v := .tuple #[.int .i64 0, .agg #[.int .i64 3, .slice none 0 0]]) (by simp [results, Tryz.results69, go_sem, e0, e1]) rfl ⟨3, .slice none 0 0, by rw [HV.out.1], Kp.of_ext HE2.out, by rw [HV.out.2]; exact h.ext HE2.out, by rw [HR.out]; exact RErrIs.code (by decide)⟩
  · by_cases h2 : 32 < n
    · have HR : Hid (rdF bs p n = range) := by show _ = _; unfold rdF; rw [if_neg (by omega)]
      have HV : Hid (rdV bs p n = 0 ∧ rdP bs p n = p) := by unfold rdV rdP; rw [HR.out]; exact ⟨rfl, rfl⟩
      go_enter Tryz.func69, Tryz.ntmps69
      go_wp2_with fail
      refine (fail_any 3 _).mono ?_; rintro e w1 ⟨rfl, hx1⟩
      have R1 := (ResAt.new w).ext hx1
      obtain ⟨g0, g1, g2, g3⟩ := R1
      have E1 := ((Ext.refl w).alloc (.cells #[.int .i64 0, .slice none 0 0] 34)).trans hx1
      have E2 : Ext w ((w1.setCell ⟨w.heap.size, 0, none⟩ (.int .i64 3)).setCell ⟨w.heap.size, 1, none⟩ (.slice none 0 0)) := (E1.setCell (p := ⟨w.heap.size, 0, none⟩) (Nat.le_refl _) _).setCell (p := ⟨w.heap.size, 1, none⟩) (Nat.le_refl _) _
      have HE2 := Lib.hid E2
      clear E1 E2
      go_wp2
      obtain ⟨e0, e1⟩ := res_cells g0 g1 (c := 3) (.slice none 0 0)
      exact bodyPost_ret (v := .tuple #[.int .i64 0, .agg #[.int .i64 3, .slice none 0 0]]) (by simp [results, Tryz.results69, go_sem, e0, e1]) rfl ⟨3, .slice none 0 0, by rw [HV.out.1], Kp.of_ext HE2.out, by rw [HV.out.2]; exact h.ext HE2.out, by rw [HR.out]; exact RErrIs.code (by decide)⟩
    · by_cases h3 : n ≤ ((8 * bs.length - p : Nat) : Int)
      · obtain ⟨N, rfl⟩ : ∃ N : Nat, n = (N : Int) := ⟨n.toNat, by omega⟩
        obtain ⟨g1, g2, g3⟩ := rd_good (bs := bs) (p := p) (N := N) (by omega) (by omega)
        rw [g1, g2, g3]
        exact rqget_yes b p N B0 bs w h (by omega) (by omega)
      · have HR : Hid (rdF bs p n = some ([(bitsS, (p : Int))], 1)) := by show _ = _; unfold rdF; rw [if_pos (by omega), if_neg h3]
        have HV : Hid (rdV bs p n = 0 ∧ rdP bs p n = p) := by unfold rdV rdP; rw [HR.out]; exact ⟨rfl, rfl⟩
        have L := Lib.hid (fun w (h : RqAt w b bs p B0) => rqleft_any b p B0 bs w h hp)
        obtain ⟨D, hD⟩ : ∃ D, 8 * bs.length - p = D := ⟨_, rfl⟩
        rw [hD] at L h3
        have h3' : (D : Int) < n := by omega
        have HA := Lib.hid h
        clear h hD hp h3
        go_enter Tryz.func69, Tryz.ntmps69
        go_wp2_with fail
        refine (L.out _ (HA.out.ext ((Ext.refl w).alloc _))).mono ?_; rintro e w1 ⟨rfl, hx1⟩
        have E1 := ((Ext.refl w).alloc (.cells #[.int .i64 0, .slice none 0 0] 34)).trans hx1
        have R1 := Lib.hid ((ResAt.new w).ext hx1)
        obtain ⟨a, cap, ⟨c0, c1, f1⟩, -, -⟩ := HA.out.ext E1
        go_wp2_with fail
        refine (wrap_any bitsS (p : Int) 1 _ (by decide)).mono ?_; rintro e w2 ⟨u, rfl, ho, hx2⟩
        have E2 := E1.trans hx2
        obtain ⟨ua, uc, rfl⟩ : ∃ ua uc, u = .slice ua 1 uc := by
          rcases ho.2 with ⟨-, h0⟩ | ⟨g, cap, cur, rfl, -⟩
          · cases h0
          · exact ⟨_, _, rfl⟩
        obtain ⟨g0, g1, g2, g3⟩ := R1.out.ext hx2
        have E3 : Ext w ((w2.setCell ⟨w.heap.size, 0, none⟩ (.int .i64 1)).setCell ⟨w.heap.size, 1, none⟩ (.slice ua 1 uc)) := (E2.setCell (p := ⟨w.heap.size, 0, none⟩) (Nat.le_refl _) _).setCell (p := ⟨w.heap.size, 1, none⟩) (Nat.le_refl _) _
        have hlt : w.heap.size < w1.heap.size := Ext.lt (p := ⟨w.heap.size, 0, none⟩) R1.out.1
        have hrow := ownsRow_setCell_below (ownsRow_setCell_below ho (a := ⟨w.heap.size, 0, none⟩) hlt (.int .i64 1)) (a := ⟨w.heap.size, 1, none⟩) hlt (.slice ua 1 uc)
        have HRW := Lib.hid (Row.of_owns hrow)
        have HE3 := Lib.hid E3
        clear E1 E2 E3 hx1 hx2 ho hrow c0 c1 f1
        go_wp2
        obtain ⟨e0, e1⟩ := res_cells g0 g1 (c := 1) (.slice ua 1 uc)
        exact bodyPost_ret (v := .tuple #[.int .i64 0, .agg #[.int .i64 1, .slice ua 1 uc]]) (by simp [results, Tryz.results69, go_sem, e0, e1]) rfl ⟨1, .slice ua 1 uc, by rw [HV.out.1], Kp.of_ext HE3.out, by rw [HV.out.2]; exact HA.out.ext HE3.out, by rw [HR.out]; exact ⟨rfl, by decide, HRW.out⟩⟩
end Go.Proofs.YtgohlhgapboijaaGreatDoor

/- (*kinref2.Reader).Align: its contract over this seat's translation. -/
namespace Go.Proofs.YtgohlhgapboijaaGreatDoor
set_option linter.unusedVariables false
set_option linter.unusedSimpArgs false
open Go.RowKit Go.Extern.Stop Go.Stop Go.Extern

/-- a variable of type kinref.Err -/
def EvAt (w : World) (B : Nat) (c : Int) (u : Value) : Prop := w.cell? ⟨B, 0, none⟩ = some (.int .i64 c) ∧ w.cell? ⟨B, 1, none⟩ = some u ∧ w.frozen? ⟨B, 0, none⟩ = false ∧ w.frozen? ⟨B, 1, none⟩ = false
theorem EvAt.new (w : World) : EvAt (w.alloc (.cells #[.int .i64 0, .slice none 0 0] 34)) w.heap.size 0 (.slice none 0 0) := ResAt.new w
theorem EvAt.ext {w w' : World} {B : Nat} {c : Int} {u : Value} (h : EvAt w B c u) (k : Ext w w') : EvAt w' B c u := by
  obtain ⟨h0, h1, h2, h3⟩ := h
  exact ⟨k.cell h0, k.cell h1, (Below.frozen k (Ext.lt h0)).trans h2, (Below.frozen k (Ext.lt h1)).trans h3⟩
theorem EvAt.kp {w w' : World} {b B : Nat} {c : Int} {u : Value} (h : EvAt w B c u) (k : Kp b w w') (hb : B ≠ b) : EvAt w' B c u :=
  ⟨k.cell h.1 hb, k.cell h.2.1 hb, (k.frozen (p := ⟨B, 0, none⟩) (Ext.lt (p := ⟨B, 0, none⟩) h.1) hb).trans h.2.2.1, (k.frozen (p := ⟨B, 1, none⟩) (Ext.lt (p := ⟨B, 1, none⟩) h.2.1) hb).trans h.2.2.2⟩
theorem EvAt.set {w : World} {B : Nat} {c : Int} {u : Value} (h : EvAt w B c u) (c' : Int) (u' : Value) : EvAt ((w.setCell ⟨B, 0, none⟩ (.int .i64 c')).setCell ⟨B, 1, none⟩ u') B c' u' := by
  obtain ⟨h0, h1, h2, h3⟩ := h
  have e0 := World.cell?_setCell_same _ _ (.int .i64 c') h0
  have e1 := (World.cell?_setCell_other w ⟨B, 0, none⟩ ⟨B, 1, none⟩ (.int .i64 c') (by simp)).trans h1
  have e2 := World.cell?_setCell_same _ _ u' e1
  have e3 := (World.cell?_setCell_other (w.setCell ⟨B, 0, none⟩ (.int .i64 c')) ⟨B, 1, none⟩ ⟨B, 0, none⟩ u' (by simp)).trans e0
  exact ⟨e3, e2, by simpa using h2, by simpa using h3⟩
/-- an error whose path, if it has one, lies at or above a base -/
def RoIs (w : World) (B1 : Nat) (f : Fall) (c : Int) (u : Value) : Prop := match f with
  | none => c = 0 ∧ u = .slice none 0 0
  | some (p, k) => c = k ∧ k ≠ 0 ∧ w.ownsRow B1 71 2 u p.length (stepCells p)
theorem RoIs.to {w : World} {B1 : Nat} {f : Fall} {c : Int} {u : Value} (h : RoIs w B1 f c u) : RErrIs w f c u := by
  cases f with
  | none => exact h
  | some a => exact ⟨h.1, h.2.1, Row.of_owns h.2.2⟩
theorem RoIs.kp {w w' : World} {b B1 : Nat} {f : Fall} {c : Int} {u : Value} (h : RoIs w B1 f c u) (k : Kp b w w') (hb : b < B1) : RoIs w' B1 f c u := by
  cases f with
  | none => exact h
  | some a => exact ⟨h.1, h.2.1, h.2.2.kept k (by
      cases hu : u.ownBlock with
      | none => exact .inl rfl
      | some g => exact .inr (fun e => by have := (h.2.2.lt g hu).1; simp only [Option.some.injEq] at e; omega))⟩
theorem RoIs.form {w : World} {B1 : Nat} {f : Fall} {c : Int} {u : Value} (h : RoIs w B1 f c u) : ∃ a n cap, u = .slice a n cap := by
  cases f with
  | none => exact ⟨none, 0, 0, h.2⟩
  | some a =>
    rcases h.2.2.2 with ⟨h1, -⟩ | ⟨g, cap, cur, e, -⟩
    · exact ⟨_, _, _, h1⟩
    · exact ⟨_, _, _, e⟩
def RqaPost (w : World) (b B0 : Nat) (bs : List Nat) (q : Nat) (f : Fall) (e : Ending) (w' : World) : Prop := ∃ c u, e = .returned (.agg #[.int .i64 c, u]) ∧ Kp b w w' ∧ RqAt w' b bs q B0 ∧ RErrIs w' f c u
set_option maxHeartbeats 8000000 in
set_option maxRecDepth 20000 in
theorem rqalign_any (b p B0 : Nat) (bs : List Nat) (w : World) (h : RqAt w b bs p B0) (hp : p ≤ 8 * bs.length) :
    Calls Tryz.prog 41 #[.pointer (some ⟨b, 0, none⟩)] w (RqaPost w b B0 bs (p + alD p) (alF bs p (alD p))) := by
  obtain ⟨D, hD⟩ : ∃ D, alD p = D := ⟨_, rfl⟩
  have hDp : (p + D) % 8 = 0 ∧ D < 8 := by rw [← hD]; unfold alD; omega
  have hle : p + D ≤ 8 * bs.length := by omega
  have hl : bs.length ≤ 140737488355328 := by obtain ⟨_, _, _, ⟨-, -, hl⟩, -⟩ := h; exact hl
  rw [hD]
  clear hD
  have HD := Lib.hid hDp
  obtain ⟨hd0, hd1⟩ := hDp
  clear hd0
  have hbw : b < w.heap.size := h.lt
  have hb0 : B0 ≤ b := h.base
  have E0 : Ext w ((w.alloc (.cells #[.int .i64 0, .slice none 0 0] 34)).alloc (.cells #[.int .i64 0, .slice none 0 0] 34)) := ((Ext.refl w).alloc _).alloc _
  have V0 := (EvAt.new w).ext ((Ext.refl _).alloc (.cells #[.int .i64 0, .slice none 0 0] 34))
  have V1 : EvAt ((w.alloc (.cells #[.int .i64 0, .slice none 0 0] 34)).alloc (.cells #[.int .i64 0, .slice none 0 0] 34)) (w.heap.size + 1) 0 (.slice none 0 0) := by
    have := EvAt.new (w.alloc (.cells #[.int .i64 0, .slice none 0 0] 34))
    simpa using this
  have HR0 := Lib.hid (h.ext E0)
  have HK0 := Lib.hid (Kp.of_ext (b := b) E0)
  have HV0 := Lib.hid V0
  have HV1 := Lib.hid V1
  clear h E0 V0 V1
  go_enter Tryz.func41, Tryz.ntmps41
  go_wp2_with fail
  go_loopg [] (D) (fun k wr => ∃ (j : Nat) (c : Int) (u : Value), j + k = D ∧ Hid (RqAt wr b bs (p + j) B0) ∧ Hid (EvAt wr w.heap.size 0 (.slice none 0 0)) ∧ Hid (EvAt wr (w.heap.size + 1) c u) ∧ Hid (RoIs wr (w.heap.size + 2) (alF bs p j) c u) ∧ Hid (Kp b w wr))
  case atStart => exact ⟨0, 0, .slice none 0 0, by omega, HR0.out, HV0.out, HV1.out, ⟨rfl, rfl⟩, HK0.out⟩
  case round =>
    clear HR0 HK0 HV0 HV1
    obtain ⟨j, c, u, hj, HR, HV, HW, HE, HK⟩ := hrel
    obtain ⟨ua, un, uc, rfl⟩ := HE.out.form
    obtain ⟨a, cap, ⟨c0, c1, f1⟩, -, -⟩ := HR.out
    obtain ⟨P, hP⟩ : ∃ P, p + j = P := ⟨_, rfl⟩
    by_cases hk : j = D
    · have m0 : (((p + j : Nat) : Int) % 8 != 0) = false := by rw [bne_eq_false_iff_eq]; have := HD.out.1; omega
      have i1 : ((p + j : Nat) : Int) % 8 = 0 := by have := HD.out.1; omega
      rw [hP] at c1 m0 i1
      have HF : Hid (alF bs p D = alF bs p j ∧ p + D = P) := by rw [← hk]; exact ⟨rfl, hP⟩
      rw [hP] at HR
      clear hk hj hP
      obtain ⟨g0, g1, g2, g3⟩ := HV.out
      obtain ⟨y0, y1, -, -⟩ := HW.out
      go_wp2
      obtain ⟨e0, e1, -, -⟩ := HV.out.set c (.slice ua un uc)
      exact bodyPost_ret (v := .agg #[.int .i64 c, .slice ua un uc]) (by simp [results, Tryz.results41, go_sem, e0, e1]) rfl ⟨c, .slice ua un uc, rfl, (HK.out.fresh (Nat.le_refl _) 0 _).fresh (Nat.le_refl _) 1 _, by rw [HF.out.2]; exact (HR.out.fresh (R := w.heap.size) (by omega) (by omega) 0 _).fresh (R := w.heap.size) (by omega) (by omega) 1 _, by rw [HF.out.1]; exact ((HE.out.kp ((Kp.refl w.heap.size _).set 0 _) (by omega)).kp ((Kp.refl w.heap.size _).set 1 _) (by omega)).to⟩
    · obtain ⟨r, hr⟩ : ∃ r : Nat, P % 8 = r := ⟨_, rfl⟩
      have hr0 : r ≠ 0 := by have := HD.out.1; have := HD.out.2; omega
      have i1 : (P : Int) % 8 = (r : Int) := by omega
      have m0 : ((r : Int) != 0) = true := by rw [bne_iff_ne]; omega
      obtain ⟨g1, g2, g3⟩ := rd_bit (bs := bs) (p := P) (by omega)
      have U := Lib.hid (fun w (h : RqAt w b bs P B0) => rqget_any b P B0 1 bs w h (by omega))
      rw [g1, g2, g3] at U
      rw [hP] at HR c1
      have hbl := btN_lt bs P
      have HB : Hid (alF bs p (j + 1) = match alF bs p j with | some f => some f | none => if btN bs P = 1 then some ([(bitsS, (P : Int))], 2) else none) := by show _ = _; rw [← hP]; rfl
      have HJ : Hid (j + 1 ≤ D ∧ p + (j + 1) = P + 1 ∧ j + 1 + (D - (j + 1)) = D) := ⟨by omega, by omega, by omega⟩
      obtain ⟨B, hB⟩ : ∃ B, btN bs P = B := ⟨_, rfl⟩
      rw [hB] at U HB hbl
      clear hk hr hr0 hP g1 g2 g3 hB
      go_wp2_with fail
      refine (U.out _ HR.out).mono ?_; rintro e w1 ⟨c9, u9, rfl, k1, r1, he1⟩
      obtain ⟨rfl, rfl⟩ := he1
      have A1 : Ext w1 (w1.alloc (.cells #[.int .i64 0, .slice none 0 0] 34)) := (Ext.refl w1).alloc _
      have KA := k1.trans (Kp.of_ext A1)
      have HR1 := Lib.hid (r1.ext A1)
      have HV1 := Lib.hid (HV.out.kp KA (by omega))
      have HW1 := Lib.hid (HW.out.kp KA (by omega))
      have HE1 := Lib.hid (HE.out.kp KA (by omega))
      have HK1 := Lib.hid (HK.out.trans KA)
      obtain ⟨y0, y1, y2, y3⟩ := HW1.out
      clear HR HV HW HE HK r1 k1 KA A1 c0 c1 f1
      have zr : ∀ (f : Fall), alF bs p (j + 1) = f → RoIs (w1.alloc (.cells #[.int .i64 0, .slice none 0 0] 34)) (w.heap.size + 2) f c (.slice ua un uc) → RoIs (w1.alloc (.cells #[.int .i64 0, .slice none 0 0] 34)) (w.heap.size + 2) (alF bs p (j + 1)) c (.slice ua un uc) := fun f h k => by rw [h]; exact k
      have ZR := Lib.hid zr
      clear zr
      by_cases hb1 : B = 1
      · subst hb1
        cases hF : alF bs p j with
        | some fl =>
          rw [hF] at HB HE1
          have hc0 : c ≠ 0 := by have h1 := HE1.out.1; have h2 := HE1.out.2.1; rw [h1]; exact h2
          have HC0 := Lib.hid hc0
          clear hc0 hF
          go_wp2_with fail
          refine (ok_any _ _ _).mono ?_; rintro e w2 ⟨rfl, hx2⟩
          rw [beq_eq_false_iff_ne.2 HC0.out]
          go_wp2
          go_roundg (D - (j + 1))
          all_goals first
            | exact ⟨j + 1, c, .slice ua un uc, HJ.out.2.2, by rw [HJ.out.2.1]; exact HR1.out.ext hx2, HV1.out.ext hx2, HW1.out.ext hx2, (ZR.out _ HB.out HE1.out).kp (Kp.of_ext (b := b) hx2) (by omega), HK1.out.ext hx2⟩
            | (have := HJ.out.1; omega)
        | none =>
          rw [hF] at HB HE1
          obtain ⟨rfl, hu⟩ := HE1.out
          simp only [Value.slice.injEq] at hu
          obtain ⟨rfl, rfl, rfl⟩ := hu
          clear hF
          go_wp2_with fail
          refine (ok_any _ _ _).mono ?_; rintro e w2 ⟨rfl, hx2⟩
          go_wp2_with fail
          refine (wrap_any bitsS (P : Int) 2 _ (by decide)).mono ?_; rintro e w3 ⟨u3, rfl, ho3, hx3⟩
          obtain ⟨va, vc, rfl⟩ : ∃ va vc, u3 = .slice va 1 vc := by
            rcases ho3.2 with ⟨-, h0⟩ | ⟨g, cap, cur, rfl, -⟩
            · cases h0
            · exact ⟨_, _, rfl⟩
          have hx23 := hx2.trans hx3
          have hlt : w.heap.size + 2 ≤ w2.heap.size := by
            have h1 := Ext.lt (p := ⟨w.heap.size + 1, 0, none⟩) HW1.out.1
            have h2 := hx2.size
            simp at h1 h2
            omega
          have HRW := Lib.hid (owns_base ho3 hlt)
          have HW3 := Lib.hid (HW1.out.ext hx23)
          have HV3 := Lib.hid (HV1.out.ext hx23)
          have HR3 := Lib.hid (HR1.out.ext hx23)
          have HK3 := Lib.hid (HK1.out.ext hx23)
          obtain ⟨z0, z1, z2, z3⟩ := HW3.out
          clear hx2 hx3 hx23 ho3 y0 y1 y2 y3
          go_wp2
          go_roundg (D - (j + 1))
          all_goals first
            | exact ⟨j + 1, 2, .slice va 1 vc, HJ.out.2.2, by rw [HJ.out.2.1]; exact (HR3.out.fresh (R := w.heap.size + 1) (by omega) (by omega) 0 _).fresh (R := w.heap.size + 1) (by omega) (by omega) 1 _, (HV3.out.kp ((Kp.refl (w.heap.size + 1) _).set 0 _) (by omega)).kp ((Kp.refl (w.heap.size + 1) _).set 1 _) (by omega), HW3.out.set 2 (.slice va 1 vc), by rw [HB.out]; exact ⟨rfl, by decide, ownsRow_setCell_below (ownsRow_setCell_below HRW.out (a := ⟨w.heap.size + 1, 0, none⟩) (Nat.lt_succ_self _) _) (a := ⟨w.heap.size + 1, 1, none⟩) (Nat.lt_succ_self _) _⟩, (HK3.out.fresh (Nat.le_succ _) 0 _).fresh (Nat.le_succ _) 1 _⟩
            | (have := HJ.out.1; omega)
      · obtain rfl : B = 0 := by omega
        have HS : Hid (RoIs (w1.alloc (.cells #[.int .i64 0, .slice none 0 0] 34)) (w.heap.size + 2) (alF bs p (j + 1)) c (.slice ua un uc)) := by
          have h1 := HE1.out
          have h2 := HB.out
          cases hF : alF bs p j with
          | some fl => rw [hF] at h1 h2; exact ZR.out _ h2 h1
          | none => rw [hF] at h1 h2; exact ZR.out _ h2 h1
        go_wp2
        go_roundg (D - (j + 1))
        all_goals first
          | exact ⟨j + 1, c, .slice ua un uc, HJ.out.2.2, by rw [HJ.out.2.1]; exact HR1.out, HV1.out, HW1.out, HS.out, HK1.out⟩
          | (have := HJ.out.1; omega)
end Go.Proofs.YtgohlhgapboijaaGreatDoor

/- kinlaw2.BitsReads: the walk. -/
namespace Go.Proofs.YtgohlhgapboijaaGreatDoor
set_option linter.unusedVariables false
set_option linter.unusedSimpArgs false
open Go.RowKit Go.Extern.Stop Go.Stop Go.Extern

theorem xor_byte (x : Int) : ∃ y : Nat, y < 256 ∧ bits .xor .u8 x 255 = (y : Int) := by
  obtain ⟨z, hz⟩ : ∃ z, bits .xor .u8 x 255 = IntKind.u8.wrap z := ⟨_, rfl⟩
  rw [hz, IntKind.wrap_u8]
  exact ⟨(z % 256).toNat, by omega, by omega⟩
theorem rdP_le {bs : List Nat} {p : Nat} {n : Int} (h : p ≤ 8 * bs.length) : rdP bs p n ≤ 8 * bs.length := by
  unfold rdP
  split
  · rename_i h1
    unfold rdF at h1
    split at h1
    · split at h1
      · omega
      · cases h1
    · cases h1
  · exact h
theorem RErrIs.form {w : World} {f : Fall} {c : Int} {u : Value} (h : RErrIs w f c u) : ∃ a n cap, u = .slice a n cap := by
  cases f with
  | none => exact ⟨none, 0, 0, h.2⟩
  | some a => obtain ⟨x, y, e, -⟩ := h.2.2; exact ⟨_, _, _, e⟩
/-- bytes of the call's own that may be written -/
def CsAt (w : World) (B1 B2 : Nat) (a : Option Addr) (n : Nat) : Prop := 0 < n → ∃ g, a = some ⟨g, 0, none⟩ ∧ (B1 ≤ g ∧ g < B2) ∧ ∀ j, j < n → (∃ x : Nat, x < 256 ∧ w.cell? ⟨g, j, none⟩ = some (.int .u8 (x : Int))) ∧ w.frozen? ⟨g, j, none⟩ = false
theorem CsAt.ext {w w' : World} {B1 B2 : Nat} {a : Option Addr} {n : Nat} (h : CsAt w B1 B2 a n) (k : Ext w w') : CsAt w' B1 B2 a n := fun h0 => by
  obtain ⟨g, e, hg, hj⟩ := h h0
  refine ⟨g, e, hg, fun j h1 => ?_⟩
  obtain ⟨⟨x, hx, c⟩, f⟩ := hj j h1
  exact ⟨⟨x, hx, k.cell c⟩, (Below.frozen k (Ext.lt c)).trans f⟩
theorem CsAt.of {w : World} {base n cap : Nat} {a : Option Addr} {bs : List Nat} (h : w.ownsRow base 5 1 (.slice a n cap) n (byC bs)) (hb : ∀ x ∈ bs, x < 256) : CsAt w base w.heap.size a n := fun hn => by
  obtain ⟨hl, h' | ⟨g, cap', cur, e', hb', hg, h1, h2, hs, ht⟩⟩ := h
  · omega
  · simp only [Value.slice.injEq] at e'
    obtain ⟨rfl, -, rfl⟩ := e'
    rw [byC_length] at hl
    refine ⟨g, rfl, ⟨hb', (Array.getElem?_eq_some_iff.1 hg).1⟩, fun j hj => ⟨⟨bs.getD j 0, ?_, ?_⟩, by simp [World.frozen?, hg]⟩⟩
    · have : j < bs.length := by omega
      exact hb _ (by rw [List.getD, List.getElem?_eq_getElem this]; exact List.getElem_mem this)
    · have : (byC bs)[j]? = some (.int .u8 ((bs.getD j 0 : Nat) : Int)) := by
        unfold byC
        rw [List.getElem?_map, nget_of_lt (by omega)]
        rfl
      rw [← ht, List.getElem?_take] at this
      split at this
      · simp [World.cell?, hg]
        simpa using this
      · cases this
theorem CsAt.set {w : World} {B1 B2 g n i : Nat} {y : Nat} (h : CsAt w B1 B2 (some ⟨g, 0, none⟩) n) (hy : y < 256) : CsAt (w.setCell ⟨g, i, none⟩ (.int .u8 (y : Int))) B1 B2 (some ⟨g, 0, none⟩) n := fun h0 => by
  obtain ⟨g', e, hg, hj⟩ := h h0
  simp only [Option.some.injEq, Addr.mk.injEq, and_true] at e
  subst e
  refine ⟨g, rfl, hg, fun j h1 => ?_⟩
  obtain ⟨⟨x, hx, c⟩, f⟩ := hj j h1
  refine ⟨?_, by simpa using f⟩
  by_cases hij : i = j
  · subst hij
    exact ⟨y, hy, World.cell?_setCell_same _ _ _ c⟩
  · exact ⟨x, hx, (cell_off_ne _ hij).trans c⟩
theorem RqAt.new {w wi : World} {a : Option Addr} {cap : Nat} {bs : List Nat} (T : TypeId) (h : Bys w (.slice a bs.length cap) bs) (k : Ext w wi) : RqAt (wi.alloc (.cells #[.slice a bs.length cap, .int .i64 0] T)) wi.heap.size bs 0 w.heap.size := by
  refine ⟨a, cap, ⟨by simp, by simp, by simp⟩, (h.ext k).ext ((Ext.refl wi).alloc _), fun hn g off ha => ?_, k.size⟩
  subst ha
  exact Ext.lt (h.at (nget_of_lt hn))
end Go.Proofs.YtgohlhgapboijaaGreatDoor

/- What the readers of codes answer, within bounds: plain. -/
namespace Go.Proofs.YtgohlhgapboijaaGreatDoor
set_option linter.unusedVariables false
set_option linter.unusedSimpArgs false
open Go.RowKit Go.Extern.Stop Go.Stop Go.Extern

theorem ugG_err {bs : List Nat} {p : Nat} {most : Int} {a : List (ByteArray × Int) × Int} {v : Int} {q : Nat} (h : ugG bs p most = (some a, v, q)) : v = 0 := by
  unfold ugG ueB at h
  split at h
  · simp only [Prod.mk.injEq] at h; exact h.2.1.symm
  · split at h
    · simp only [Prod.mk.injEq] at h; exact h.2.1.symm
    · simp at h
theorem sgG_err {bs : List Nat} {p : Nat} {most : Int} {a : List (ByteArray × Int) × Int} {v : Int} {q : Nat} (h : sgG bs p most = (some a, v, q)) : v = 0 := by
  unfold sgG seB at h
  split at h
  · simp only [Prod.mk.injEq] at h; exact h.2.1.symm
  · split at h
    · simp only [Prod.mk.injEq] at h; exact h.2.1.symm
    · simp at h
theorem rgG_err {bs : List Nat} {p : Nat} {k most : Int} {a : List (ByteArray × Int) × Int} {v : Int} {q : Nat} (h : rgG bs p k most = (some a, v, q)) : v = 0 := by
  unfold rgG at h
  split at h
  · unfold riE at h
    split at h
    · simp only [Prod.mk.injEq] at h; exact h.2.1.symm
    · unfold riZ at h
      split at h
      · split at h
        · simp only [Prod.mk.injEq] at h; exact h.2.1.symm
        · simp at h
      · simp only [Prod.mk.injEq] at h; exact h.2.1.symm
  · simp only [Prod.mk.injEq] at h; exact h.2.1.symm
theorem ugG_code {bs : List Nat} {p : Nat} {most v : Int} {q : Nat} (h : ugG bs p most = (none, v, q)) : ∃ V : Nat, v = (V : Int) ∧ V ≤ 1073741824 ∧ v ≤ most ∧ ueR bs 31 0 p = (none, v, q) ∧ UeIs bs p V ∧ q = p + (ueL V).length ∧ q ≤ 8 * bs.length := by
  obtain ⟨R, hR⟩ : ∃ R, ueR bs 31 0 p = R := ⟨_, rfl⟩
  unfold ugG at h
  rw [hR] at h
  obtain ⟨f, u, z⟩ := R
  cases f with
  | some a => simp [ueB] at h
  | none =>
    simp only [ueB] at h
    split at h
    · simp at h
    · rename_i hb
      simp only [Prod.mk.injEq, true_and] at h
      obtain ⟨rfl, rfl⟩ := h
      obtain ⟨V, rfl, h2, h3, h4, h5⟩ := ueR_code hR
      exact ⟨V, rfl, by omega, by omega, hR, h3, h4, h5⟩
theorem ugG_of {bs : List Nat} {p V : Nat} {most : Int} (h : UeIs bs p V) (h1 : V ≤ 1073741824) (h2 : (V : Int) ≤ most) : ugG bs p most = (none, (V : Int), p + (ueL V).length) := by
  unfold ugG
  rw [ueR_of h h1]
  simp only [ueB]
  rw [if_neg (by omega)]
theorem ugG_less {bs : List Nat} {p : Nat} {most v : Int} {q : Nat} (h : ugG bs p most = (none, v, q)) : ugG bs p (v - 1) = (some ([(codesS, (q : Int))], 3), 0, q) := by
  obtain ⟨V, rfl, h1, h2, h3, -⟩ := ugG_code h
  unfold ugG
  rw [h3]
  simp only [ueB]
  rw [if_pos (by omega)]
theorem sgG_code {bs : List Nat} {p : Nat} {most v : Int} {q : Nat} (h : sgG bs p most = (none, v, q)) : ∃ V : Nat, v = unfoldI (V : Int) ∧ V < 2147483648 ∧ absI v ≤ 536870912 ∧ absI v ≤ most ∧ ueR bs 31 0 p = (none, (V : Int), q) ∧ UeIs bs p V ∧ q = p + (ueL V).length ∧ q ≤ 8 * bs.length := by
  obtain ⟨R, hR⟩ : ∃ R, ueR bs 31 0 p = R := ⟨_, rfl⟩
  unfold sgG at h
  rw [hR] at h
  obtain ⟨f, u, z⟩ := R
  cases f with
  | some a => simp [seB] at h
  | none =>
    simp only [seB] at h
    split at h
    · simp at h
    · rename_i hb
      simp only [Prod.mk.injEq, true_and] at h
      obtain ⟨rfl, rfl⟩ := h
      obtain ⟨V, rfl, h2, h3, h4, h5⟩ := ueR_code hR
      exact ⟨V, rfl, h2, by omega, by omega, hR, h3, h4, h5⟩
theorem sgG_less {bs : List Nat} {p : Nat} {most v : Int} {q : Nat} (h : sgG bs p most = (none, v, q)) : sgG bs p (absI v - 1) = (some ([(codesS, (q : Int))], 3), 0, q) := by
  obtain ⟨V, rfl, h1, h2, h3, h4, -⟩ := sgG_code h
  unfold sgG
  rw [h4]
  simp only [seB]
  rw [if_pos (by omega)]
theorem abs_le {v : Int} {m : Int} : absI v ≤ m ↔ v ≤ m ∧ -v ≤ m := by unfold absI; omega
theorem unfold_fold {v : Int} (h : -2305843009213693952 ≤ v ∧ v ≤ 2305843009213693952) : unfoldI (foldI v) = v := by
  unfold foldI
  rw [if_neg (by omega)]
  split
  · unfold unfoldI; rw [if_neg (by omega), if_pos (by omega)]; omega
  · unfold unfoldI; rw [if_neg (by omega), if_neg (by omega)]; omega
theorem fold_unfold {u : Int} (h : 0 ≤ u ∧ u ≤ 4611686018427387904) : foldI (unfoldI u) = u := by
  unfold unfoldI
  rw [if_neg (by omega)]
  split
  · unfold foldI; rw [if_neg (by omega), if_pos (by omega)]; omega
  · unfold foldI; rw [if_neg (by omega), if_neg (by omega)]; omega
theorem sgG_of {bs : List Nat} {p : Nat} {v most : Int} (hs : seOk v) (h : UeIs bs p (foldI v).toNat) (h2 : absI v ≤ most) : sgG bs p most = (none, v, p + (ueL (foldI v).toNat).length) := by
  have hf := fold_ok hs
  unfold ueOk at hf
  have hv := unfold_fold (v := v) (by unfold seOk at hs; omega)
  have hsv : absI v ≤ 536870912 := abs_le.2 (by unfold seOk at hs; omega)
  unfold sgG
  rw [ueR_of h (by omega)]
  simp only [seB]
  rw [show (((foldI v).toNat : Nat) : Int) = foldI v by omega, hv, if_neg (by omega)]
theorem rgG_code {bs : List Nat} {p : Nat} {k most v : Int} {q : Nat} (hp : p ≤ 8 * bs.length) (h : rgG bs p k most = (none, v, q)) : (0 ≤ k ∧ k ≤ 15) ∧ ∃ V : Nat, v = (V : Int) ∧ V ≤ 1073741824 ∧ v ≤ most ∧ RiIs bs p V k.toNat ∧ q = p + (riL V k.toNat).length ∧ q ≤ 8 * bs.length := by
  unfold rgG at h
  split at h
  · rename_i hk
    obtain ⟨V, rfl, h1, h2, h3, h4, h5⟩ := riE_code hp h
    exact ⟨hk, V, rfl, h1, h2, h3, h4, h5⟩
  · simp [range] at h
theorem rgG_of {bs : List Nat} {p V : Nat} {k most : Int} (hk : 0 ≤ k ∧ k ≤ 15) (h : RiIs bs p V k.toNat) (h1 : V ≤ 1073741824) (h2 : (V : Int) ≤ most) : rgG bs p k most = (none, (V : Int), p + (riL V k.toNat).length) := by
  unfold rgG
  rw [if_pos hk, riE_of h h1 h2]
theorem riE_less {bs : List Nat} {p k : Nat} {most v : Int} {q : Nat} (h : riE bs k most (riQ bs 24 0 p) = (none, v, q)) : riE bs k (v - 1) (riQ bs 24 0 p) = (some ([(codesS, (q : Int))], 3), 0, q) := by
  obtain ⟨R, hR⟩ : ∃ R, riQ bs 24 0 p = R := ⟨_, rfl⟩
  rw [hR] at h ⊢
  obtain ⟨f, u, z⟩ := R
  cases f with
  | some a => simp [riE] at h
  | none =>
    simp only [riE, riZ] at h ⊢
    split at h
    · rename_i hw
      split at h
      · simp at h
      · simp only [Prod.mk.injEq, true_and] at h
        obtain ⟨rfl, rfl⟩ := h
        rw [if_pos hw, if_pos (by unfold riX; omega)]
    · simp at h
theorem rgG_less {bs : List Nat} {p : Nat} {k most v : Int} {q : Nat} (h : rgG bs p k most = (none, v, q)) : rgG bs p k (v - 1) = (some ([(codesS, (q : Int))], 3), 0, q) := by
  unfold rgG at h ⊢
  split at h
  · rename_i hk
    rw [if_pos hk]
    exact riE_less h
  · simp [range] at h
theorem szUe_no {v : Int} (h : ¬ ueOk v) : szUe v = 0 := by unfold szUe; rw [if_neg h]
theorem szUe_yes {v : Int} (h : ueOk v) : szUe v = ((ueL v.toNat).length : Int) ∧ 0 < szUe v ∧ szUe v ≤ 61 := by
  have e : szUe v = ((ueL v.toNat).length : Int) := by unfold szUe; rw [if_pos h]
  unfold ueOk at h
  obtain ⟨b0, b1, b2⟩ := blen_bounds (v.toNat + 1) (by omega) (by omega)
  have b3 := blen_le (u := v.toNat + 1) (k := 31) (by omega) (by omega) (by omega)
  have := ueL_length v.toNat
  exact ⟨e, by omega, by omega⟩
theorem szUe_le {a b : Int} (ha : ueOk a) (hb : ueOk b) (h : a ≤ b) : szUe a ≤ szUe b := by
  rw [(szUe_yes ha).1, (szUe_yes hb).1, ueL_length, ueL_length]
  unfold ueOk at ha hb
  have := blen_mono (a := a.toNat + 1) (b := b.toNat + 1) (by omega) (by omega) (by omega)
  omega
theorem szRi_no {v k : Int} (h : ¬ riOk v k) : szRi v k = 0 := by unfold szRi; rw [if_neg h]
theorem szRi_yes {v k : Int} (h : riOk v k) : szRi v k = ((riL v.toNat k.toNat).length : Int) ∧ 0 < szRi v k ∧ szRi v k ≤ 55 := by
  have e : szRi v k = ((riL v.toNat k.toNat).length : Int) := by unfold szRi; rw [if_pos h]
  unfold riOk at h
  have := riL_length v.toNat k.toNat
  have h3 : 0 < (riL v.toNat k.toNat).length ∧ (riL v.toNat k.toNat).length ≤ 55 := by
    rw [this]
    generalize v.toNat / 2 ^ k.toNat = q
    split <;> omega
  exact ⟨e, by omega, by omega⟩
theorem szRi_le {a b k : Int} (ha : riOk a k) (hb : riOk b k) (h : a ≤ b) : szRi a k ≤ szRi b k := by
  rw [(szRi_yes ha).1, (szRi_yes hb).1, riL_length, riL_length]
  unfold riOk at ha hb
  have := Nat.div_le_div_right (c := 2 ^ k.toNat) (show a.toNat ≤ b.toNat by omega)
  generalize a.toNat / 2 ^ k.toNat = q1 at *
  generalize b.toNat / 2 ^ k.toNat = q2 at *
  split
  · split <;> omega
  · rw [if_neg (by omega)]; omega
end Go.Proofs.YtgohlhgapboijaaGreatDoor
