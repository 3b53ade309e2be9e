/- Contracts of this seat: Br1, Br2, Bx1, Bx2, Bx3, Bx4, Bl5. -/
import Derived.Test.YtehmgieocoppjaaDoorZs
import Derived.OwnWalk
import Derived.Deep.RegionHeld3
/- kinref2.Reader: contracts over this seat's translation. -/
namespace Go.Proofs.YtehmgieocoppjaaDoor
set_option linter.unusedVariables false
set_option linter.unusedSimpArgs false
open Go.RowKit Go.Extern.Stop Go.Stop Go.Extern

theorem ofInt8_one : BitVec.ofInt 8 1 = 1#8 := by decide
theorem and_one8 (x : Nat) (hx : x < 256) : bits .and .u8 (x : Int) 1 = ((x % 2 : Nat) : Int) := by
  have e : (BitVec.ofInt 8 (x : Int) &&& BitVec.ofInt 8 1).toNat = x % 2 := by
    rw [ofInt8_nat, ofInt8_one, BitVec.toNat_and, BitVec.toNat_ofNat, Nat.mod_eq_of_lt (by omega)]
    exact Nat.and_one_is_mod x
  show IntKind.u8.wrap (((BitVec.ofInt 8 (x : Int) &&& BitVec.ofInt 8 1).toNat : Nat) : Int) = _
  rw [e, IntKind.wrap_u8]
  omega
theorem Kp.fresh {b : Nat} {u v : World} (h : Kp b u v) {R : Nat} (hR : u.heap.size ≤ R) (o : Nat) (x : Value) : Kp b u (v.setCell ⟨R, o, none⟩ x) := by
  obtain ⟨h1, h2, h3, h4, h5⟩ := h
  exact ⟨h1, h2, h3, Nat.le_trans h4 (by simp), fun i hi hn => (Below.heap_setCell v ⟨R, o, none⟩ x i (show i ≠ R by omega)).trans (h5 i hi hn)⟩
/-- a reader of the document's: its bytes lie below B0 -/
def RqAt (w : World) (b : Nat) (bs : List Nat) (p B0 : Nat) : Prop := ∃ a cap, RdBox w b (.slice a bs.length cap) p ∧ Bys w (.slice a bs.length cap) bs ∧ (0 < bs.length → ∀ g off, a = some ⟨g, off, none⟩ → g < B0) ∧ B0 ≤ b
theorem RqAt.lt {w : World} {b p B0 : Nat} {bs : List Nat} (h : RqAt w b bs p B0) : b < w.heap.size := by
  obtain ⟨_, _, h1, -⟩ := h
  exact Ext.lt (p := ⟨b, 0, none⟩) h1.1
theorem RqAt.base {w : World} {b p B0 : Nat} {bs : List Nat} (h : RqAt w b bs p B0) : B0 ≤ b := by
  obtain ⟨_, _, -, -, -, h4⟩ := h
  exact h4
theorem RqAt.mono {w w' : World} {b p B0 : Nat} {bs : List Nat} (h : RqAt w b bs p B0) (k : ∀ i, i < B0 → w'.heap[i]? = w.heap[i]?) (kb : w'.heap[b]? = w.heap[b]?) : RqAt w' b bs p B0 := by
  obtain ⟨a, cap, ⟨c0, c1, f1⟩, ⟨⟨a', cap', e, h1, h2, h3, h4⟩, h5⟩, h6, h7⟩ := h
  refine ⟨a, cap, ⟨(World.cell?_of_block (a := ⟨b, 0, none⟩) kb).trans c0, (World.cell?_of_block (a := ⟨b, 1, none⟩) kb).trans c1, (World.frozen?_of_block (a := ⟨b, 1, none⟩) kb).trans f1⟩, ⟨⟨a', cap', e, h1, h2, h3, fun g off ha j u hu => ?_⟩, h5⟩, h6, h7⟩
  simp only [Value.slice.injEq] at e
  obtain ⟨rfl, -, -⟩ := e
  have hj : j < bs.length := by have := (List.getElem?_eq_some_iff.1 hu).1; simpa using this
  exact (World.cell?_of_block (a := ⟨g, off + j, none⟩) (k g (h6 (by omega) g off ha))).trans (h4 g off ha j u hu)
theorem RqAt.ext {w w' : World} {b p B0 : Nat} {bs : List Nat} (h : RqAt w b bs p B0) (k : Ext w w') : RqAt w' b bs p B0 :=
  h.mono (fun i hi => k.block (by have := h.lt; have := h.base; omega)) (k.block h.lt)
theorem RqAt.kp {w w' : World} {b c p B0 : Nat} {bs : List Nat} (h : RqAt w b bs p B0) (k : Kp c w w') (hc : B0 ≤ c) (hb : b ≠ c) : RqAt w' b bs p B0 :=
  h.mono (fun i hi => k.block (by have := h.lt; have := h.base; omega) (by omega)) (k.block h.lt hb)
theorem RqAt.set {w : World} {b p B0 : Nat} {bs : List Nat} (h : RqAt w b bs p B0) (q : Nat) : RqAt (w.setCell ⟨b, 1, none⟩ (.int .i64 (q : Int))) b bs q B0 := by
  obtain ⟨a, cap, h1, ⟨⟨a', cap', e, g1, g2, g3, g4⟩, h5⟩, h6, h7⟩ := h
  refine ⟨a, cap, h1.set q, ⟨⟨a', cap', e, g1, g2, g3, fun g off ha j u hu => ?_⟩, h5⟩, h6, h7⟩
  have hj : j < bs.length := by have := (List.getElem?_eq_some_iff.1 hu).1; simpa using this
  simp only [Value.slice.injEq] at e
  obtain ⟨rfl, -, -⟩ := e
  have hg := h6 (by omega) g off ha
  exact (World.cell?_setCell_other w ⟨b, 1, none⟩ ⟨g, off + j, none⟩ (.int .i64 (q : Int)) (by first | (simp; done) | (simp; omega))).trans (g4 g off ha j u hu)
theorem RqAt.fresh {w : World} {b p B0 : Nat} {bs : List Nat} (h : RqAt w b bs p B0) {R : Nat} (hR : B0 ≤ R) (hb : b ≠ R) (o : Nat) (x : Value) : RqAt (w.setCell ⟨R, o, none⟩ x) b bs p B0 := h.kp ((Kp.refl R w).set o x) hR hb
/-- a number and an error, the reader's place -/
def RqPost (w : World) (b B0 : Nat) (bs : List Nat) (v : Int) (q : Nat) (f : Fall) (e : Ending) (w' : World) : Prop := ∃ c u, e = .returned (.tuple #[.int .i64 v, .agg #[.int .i64 c, u]]) ∧ Kp b w w' ∧ RqAt w' b bs q B0 ∧ RErrIs w' f c u
set_option maxRecDepth 20000 in
theorem rqleft_any (b p B0 : Nat) (bs : List Nat) (w : World) (h : RqAt w b bs p B0) (hp : p ≤ 8 * bs.length) :
    Calls Tryd.prog 67  #[.pointer (some ⟨b, 0, none⟩)] w fun e w' => e = .returned (.int .i64 ((8 * bs.length - p : Nat) : Int)) ∧ Ext w w' := by
  obtain ⟨a, cap, ⟨h0, h1, h2⟩, ⟨-, -, hl⟩, -⟩ := h
  obtain ⟨n, hn⟩ : ∃ n, n = bs.length := ⟨_, rfl⟩
  rw [← hn] at h0 hp hl ⊢
  have e1 : IntKind.i64.wrap (8 * (n : Int)) = 8 * (n : Int) := by rw [IntKind.wrap_i64]; omega
  have e2 : IntKind.i64.wrap (8 * (n : Int) - (p : Int)) = ((8 * n - p : Nat) : Int) := by rw [IntKind.wrap_i64]; omega
  clear hn
  go_enter Tryd.func67, Tryd.ntmps67
  go_wp2_with fail
  go_quiet (fail)
  go_wp2
  go_ret
  exact ⟨rfl, (Ext.refl w).drewN _⟩
theorem ResAt.kpR {w w' : World} {b B : Nat} (h : ResAt w B) (k : Kp b w w') (hb : B ≠ b) : ResAt w' B :=
  ⟨k.cell h.1 hb, k.cell h.2.1 hb, (k.frozen (p := ⟨B, 0, none⟩) (Ext.lt (p := ⟨B, 0, none⟩) h.1) hb).trans h.2.2.1, (k.frozen (p := ⟨B, 1, none⟩) (Ext.lt (p := ⟨B, 1, none⟩) h.2.1) hb).trans h.2.2.2⟩
set_option maxHeartbeats 4000000 in
set_option maxRecDepth 20000 in
theorem rqget_yes (b p N B0 : Nat) (bs : List Nat) (w : World) (h : RqAt w b bs p B0) (hp : p + N ≤ 8 * bs.length) (hN : N ≤ 32) :
    Calls Tryd.prog 57 #[.pointer (some ⟨b, 0, none⟩), .int .i64 (N : Int)] w (RqPost w b B0 bs (nmN bs p N : Nat) (p + N) none) := by
  have L := Lib.hid (fun w (h : RqAt w b bs p B0) => rqleft_any b p B0 bs w h (by omega))
  have HR := Lib.hid h
  have hbw : b < w.heap.size := h.lt
  have hb0 : B0 ≤ b := h.base
  have hl : bs.length ≤ 140737488355328 := by obtain ⟨_, _, _, ⟨-, -, hl⟩, -⟩ := h; exact hl
  obtain ⟨D, hD⟩ : ∃ D, 8 * bs.length - p = D := ⟨_, rfl⟩
  rw [hD] at L
  have d1 : ¬ (D : Int) < (N : Int) := by omega
  clear h hD
  go_enter Tryd.func57, Tryd.ntmps57
  go_wp2_with fail
  refine (L.out _ (HR.out.ext ((Ext.refl w).alloc _))).mono ?_; rintro e w1 ⟨rfl, hx1⟩
  have E1 := ((Ext.refl w).alloc (.cells #[.int .i64 0, .slice none 0 0] 39)).trans hx1
  have RS1 := Lib.hid ((ResAt.new w).ext hx1)
  have HR1 := Lib.hid (HR.out.ext E1)
  have K1 := Lib.hid (Kp.of_ext (b := b) E1)
  clear HR hx1 L E1
  go_wp2_with fail
  go_loopw [6, 7] (fun vv iv wr => ∃ k : Nat, k ≤ N ∧ vv = .int .i64 ((nmN bs p k : Nat) : Int) ∧ iv = .int .i64 (k : Int) ∧ Hid (RqAt wr b bs (p + k) B0) ∧ Hid (Kp b w wr) ∧ Hid (ResAt wr w.heap.size)) (fun _ iv _ => N - (intOf iv).toNat)
  case atStart => exact ⟨0, Nat.zero_le _, rfl, rfl, HR1.out, K1.out, RS1.out⟩
  case round =>
    clear HR1 K1 RS1
    obtain ⟨k, hk, rfl, rfl, HR, HK, HS⟩ := hrel
    by_cases hlt : k < N
    · obtain ⟨a, cap, ⟨c0, c1, f1⟩, hB, hne⟩ := HR.out
      obtain ⟨P, hP⟩ : ∃ P, P = p + k := ⟨_, rfl⟩
      obtain ⟨q, hq⟩ : ∃ q, q = P / 8 := ⟨_, rfl⟩
      obtain ⟨r, hr⟩ : ∃ r, r = P % 8 := ⟨_, rfl⟩
      obtain ⟨s, hs⟩ : ∃ s, s = 7 - r := ⟨_, rfl⟩
      have hq1 : q < bs.length := by omega
      obtain ⟨g, off, rfl⟩ := hB.had (by omega)
      have cB := hB.at (nget_of_lt hq1)
      have hBl := hB.lt q
      have hadd := nmN_add bs p k 1
      have hv := nmN_lt bs p k
      have hv2 := nmN_lt bs p (k + 1)
      rw [← hP, nmN_one] at hadd
      unfold btN at hadd
      rw [← hq, ← hr, ← hs] at hadd
      rw [← hP] at c1
      obtain ⟨B, hBB⟩ : ∃ B, bs.getD q 0 = B := ⟨_, rfl⟩
      rw [hBB] at cB hBl hadd
      obtain ⟨x, hx⟩ : ∃ x, B / 2 ^ s = x := ⟨_, rfl⟩
      obtain ⟨y, hy⟩ : ∃ y, x % 2 = y := ⟨_, rfl⟩
      rw [hx, hy] at hadd
      obtain ⟨V, hV⟩ : ∃ V, nmN bs p k = V := ⟨_, rfl⟩
      obtain ⟨V2, hV2⟩ : ∃ V2, nmN bs p (k + 1) = V2 := ⟨_, rfl⟩
      rw [hV] at hv hadd ⊢
      rw [hV2] at hv2 hadd
      have hxB : x ≤ B := by rw [← hx]; exact Nat.div_le_self _ _
      have hVb : V2 < 2 ^ 32 := Nat.lt_of_lt_of_le hv2 (Nat.pow_le_pow_right (by decide) (by omega))
      have b1 := and_one8 x (by omega)
      rw [hy] at b1
      obtain ⟨Z, hZ⟩ : ∃ Z, 2 * V = Z := ⟨_, rfl⟩
      have i1 : (P : Int) % 8 = (r : Int) := by omega
      have i2 : Int.tmod (P : Int) 8 = (r : Int) := by rw [Int.tmod_eq_emod_of_nonneg (by omega)]; exact i1
      have i3 : Int.tdiv (P : Int) 8 = (q : Int) := by rw [Int.tdiv_eq_ediv_of_nonneg (by omega)]; omega
      have i4 : (P : Int) / 8 = (q : Int) := by omega
      have i5 : IntKind.i64.wrap (7 - (r : Int)) = (s : Int) := by rw [IntKind.wrap_i64]; omega
      have i6 : (7 : Int) - (r : Int) = (s : Int) := by omega
      have i7 : IntKind.u64.wrap (s : Int) = (s : Int) := by rw [IntKind.wrap_u64]; omega
      have j1 : (B : Int) / 2 ^ s = (x : Int) := by rw [← hx]; simp
      have j2 : IntKind.u8.wrap (x : Int) = (x : Int) := by rw [IntKind.wrap_u8]; omega
      have j3 : IntKind.i64.wrap (y : Int) = (y : Int) := by rw [IntKind.wrap_i64]; omega
      have j4 : IntKind.i64.wrap (2 * (V : Int)) = (Z : Int) := by rw [IntKind.wrap_i64]; omega
      have j5 : IntKind.i64.wrap ((Z : Int) + (y : Int)) = (V2 : Int) := by rw [IntKind.wrap_i64]; omega
      have j9 : IntKind.i64.wrap ((P : Int) + 1) = ((P + 1 : Nat) : Int) := by rw [IntKind.wrap_i64]; omega
      have q1 : (0 : Int) ≤ (q : Int) := by omega
      have q2 : (q : Int) < (bs.length : Int) := by omega
      have m1 : (k : Int) < (N : Int) := by omega
      have HE : Hid (V2 = nmN bs p (k + 1) ∧ P + 1 = p + (k + 1) ∧ k + 1 ≤ N) := ⟨hV2.symm, by omega, by omega⟩
      have d9 : (0 : Int) ≤ (s : Int) ∧ (s : Int) ≤ 64 := by omega
      have hPP := Lib.hid hP.symm
      clear hP hq hr hs hadd hv hv2 hx hy hV hV2 hZ hB hBB hne
      go_wp2_with fail
      go_quiet (fail)
      have D1 : Ext wr (wr.drewN nq) := (Ext.refl wr).drewN _
      have HR2 := Lib.hid (HR.out.ext D1)
      have K2 := Lib.hid (HK.out.ext D1)
      have S2 := Lib.hid (HS.out.ext D1)
      clear HR HK HS D1 c0 c1 f1 cB
      revert HR2 K2 S2
      generalize wr.drewN nq = wq
      intro HR2 K2 S2
      obtain ⟨a, cap, ⟨c0, c1, f1⟩, -, -⟩ := HR2.out
      rw [hPP.out] at c1
      go_wp2
      go_roundw
      case rel => exact ⟨k + 1, HE.out.2.2, by rw [HE.out.1], by go_num, by rw [← HE.out.2.1]; exact HR2.out.set _, K2.out.set 1 _, S2.out.kpR ((Kp.refl b wq).set 1 _) (by omega)⟩
      case measure => simp [intOf]; omega
    · obtain rfl : k = N := by omega
      obtain ⟨g0, g1, g2, g3⟩ := HS.out
      go_wp2
      obtain ⟨e0, e1⟩ := res_cells g0 g1 (c := 0) (.slice none 0 0)
      exact bodyPost_ret (v := .tuple #[.int .i64 ((nmN bs p k : Nat) : Int), .agg #[.int .i64 0, .slice none 0 0]]) (by simp [results, Tryd.results57, go_sem, e0, e1]) rfl ⟨0, .slice none 0 0, rfl, (HK.out.fresh (Nat.le_refl _) 0 _).fresh (Nat.le_refl _) 1 _, (HR.out.fresh (R := w.heap.size) (by omega) (by omega) 0 _).fresh (R := w.heap.size) (by omega) (by omega) 1 _, rfl, rfl⟩
set_option maxHeartbeats 4000000 in
set_option maxRecDepth 20000 in
theorem rqget_any (b p B0 : Nat) (n : Int) (bs : List Nat) (w : World) (h : RqAt w b bs p B0) (hp : p ≤ 8 * bs.length) :
    Calls Tryd.prog 57 #[.pointer (some ⟨b, 0, none⟩), .int .i64 n] w (RqPost w b B0 bs (rdV bs p n) (rdP bs p n) (rdF bs p n)) := by
  by_cases h1 : n < 0
  · have HR : Hid (rdF bs p n = range) := by show _ = _; unfold rdF; rw [if_neg (by omega)]
    have HV : Hid (rdV bs p n = 0 ∧ rdP bs p n = p) := by unfold rdV rdP; rw [HR.out]; exact ⟨rfl, rfl⟩
    go_enter Tryd.func57, Tryd.ntmps57
    go_wp2_with fail
    refine (fail_any 3 _).mono ?_; rintro e w1 ⟨rfl, hx1⟩
    have R1 := (ResAt.new w).ext hx1
    obtain ⟨g0, g1, g2, g3⟩ := R1
    have E1 := ((Ext.refl w).alloc (.cells #[.int .i64 0, .slice none 0 0] 39)).trans hx1
    have E2 : Ext w ((w1.setCell ⟨w.heap.size, 0, none⟩ (.int .i64 3)).setCell ⟨w.heap.size, 1, none⟩ (.slice none 0 0)) := (E1.setCell (p := ⟨w.heap.size, 0, none⟩) (Nat.le_refl _) _).setCell (p := ⟨w.heap.size, 1, none⟩) (Nat.le_refl _) _
    have HE2 := Lib.hid E2
    clear E1 E2
    go_wp2
    obtain ⟨e0, e1⟩ := res_cells g0 g1 (c := 3) (.slice none 0 0)
    exact bodyPost_ret (v := .tuple #[.int .i64 0, .agg #[.int .i64 3, .slice none 0 0]]) (by simp [results, Tryd.results57, go_sem, e0, e1]) rfl ⟨3, .slice none 0 0, by rw [HV.out.1], Kp.of_ext HE2.out, by rw [HV.out.2]; exact h.ext HE2.out, by rw [HR.out]; exact RErrIs.code (by decide)⟩
  · by_cases h2 : 32 < n
    · have HR : Hid (rdF bs p n = range) := by show _ = _; unfold rdF; rw [if_neg (by omega)]
      have HV : Hid (rdV bs p n = 0 ∧ rdP bs p n = p) := by unfold rdV rdP; rw [HR.out]; exact ⟨rfl, rfl⟩
      go_enter Tryd.func57, Tryd.ntmps57
      go_wp2_with fail
      refine (fail_any 3 _).mono ?_; rintro e w1 ⟨rfl, hx1⟩
      have R1 := (ResAt.new w).ext hx1
      obtain ⟨g0, g1, g2, g3⟩ := R1
      have E1 := ((Ext.refl w).alloc (.cells #[.int .i64 0, .slice none 0 0] 39)).trans hx1
      have E2 : Ext w ((w1.setCell ⟨w.heap.size, 0, none⟩ (.int .i64 3)).setCell ⟨w.heap.size, 1, none⟩ (.slice none 0 0)) := (E1.setCell (p := ⟨w.heap.size, 0, none⟩) (Nat.le_refl _) _).setCell (p := ⟨w.heap.size, 1, none⟩) (Nat.le_refl _) _
      have HE2 := Lib.hid E2
      clear E1 E2
      go_wp2
      obtain ⟨e0, e1⟩ := res_cells g0 g1 (c := 3) (.slice none 0 0)
      exact bodyPost_ret (v := .tuple #[.int .i64 0, .agg #[.int .i64 3, .slice none 0 0]]) (by simp [results, Tryd.results57, go_sem, e0, e1]) rfl ⟨3, .slice none 0 0, by rw [HV.out.1], Kp.of_ext HE2.out, by rw [HV.out.2]; exact h.ext HE2.out, by rw [HR.out]; exact RErrIs.code (by decide)⟩
    · by_cases h3 : n ≤ ((8 * bs.length - p : Nat) : Int)
      · obtain ⟨N, rfl⟩ : ∃ N : Nat, n = (N : Int) := ⟨n.toNat, by omega⟩
        obtain ⟨g1, g2, g3⟩ := rd_good (bs := bs) (p := p) (N := N) (by omega) (by omega)
        rw [g1, g2, g3]
        exact rqget_yes b p N B0 bs w h (by omega) (by omega)
      · have HR : Hid (rdF bs p n = some ([(bitsS, (p : Int))], 1)) := by show _ = _; unfold rdF; rw [if_pos (by omega), if_neg h3]
        have HV : Hid (rdV bs p n = 0 ∧ rdP bs p n = p) := by unfold rdV rdP; rw [HR.out]; exact ⟨rfl, rfl⟩
        have L := Lib.hid (fun w (h : RqAt w b bs p B0) => rqleft_any b p B0 bs w h hp)
        obtain ⟨D, hD⟩ : ∃ D, 8 * bs.length - p = D := ⟨_, rfl⟩
        rw [hD] at L h3
        have h3' : (D : Int) < n := by omega
        have HA := Lib.hid h
        clear h hD hp h3
        go_enter Tryd.func57, Tryd.ntmps57
        go_wp2_with fail
        refine (L.out _ (HA.out.ext ((Ext.refl w).alloc _))).mono ?_; rintro e w1 ⟨rfl, hx1⟩
        have E1 := ((Ext.refl w).alloc (.cells #[.int .i64 0, .slice none 0 0] 39)).trans hx1
        have R1 := Lib.hid ((ResAt.new w).ext hx1)
        obtain ⟨a, cap, ⟨c0, c1, f1⟩, -, -⟩ := HA.out.ext E1
        go_wp2_with fail
        refine (wrap_any bitsS (p : Int) 1 _ (by decide)).mono ?_; rintro e w2 ⟨u, rfl, ho, hx2⟩
        have E2 := E1.trans hx2
        obtain ⟨ua, uc, rfl⟩ : ∃ ua uc, u = .slice ua 1 uc := by
          rcases ho.2 with ⟨-, h0⟩ | ⟨g, cap, cur, rfl, -⟩
          · cases h0
          · exact ⟨_, _, rfl⟩
        obtain ⟨g0, g1, g2, g3⟩ := R1.out.ext hx2
        have E3 : Ext w ((w2.setCell ⟨w.heap.size, 0, none⟩ (.int .i64 1)).setCell ⟨w.heap.size, 1, none⟩ (.slice ua 1 uc)) := (E2.setCell (p := ⟨w.heap.size, 0, none⟩) (Nat.le_refl _) _).setCell (p := ⟨w.heap.size, 1, none⟩) (Nat.le_refl _) _
        have hlt : w.heap.size < w1.heap.size := Ext.lt (p := ⟨w.heap.size, 0, none⟩) R1.out.1
        have hrow := ownsRow_setCell_below (ownsRow_setCell_below ho (a := ⟨w.heap.size, 0, none⟩) hlt (.int .i64 1)) (a := ⟨w.heap.size, 1, none⟩) hlt (.slice ua 1 uc)
        have HRW := Lib.hid (Row.of_owns hrow)
        have HE3 := Lib.hid E3
        clear E1 E2 E3 hx1 hx2 ho hrow c0 c1 f1
        go_wp2
        obtain ⟨e0, e1⟩ := res_cells g0 g1 (c := 1) (.slice ua 1 uc)
        exact bodyPost_ret (v := .tuple #[.int .i64 0, .agg #[.int .i64 1, .slice ua 1 uc]]) (by simp [results, Tryd.results57, go_sem, e0, e1]) rfl ⟨1, .slice ua 1 uc, by rw [HV.out.1], Kp.of_ext HE3.out, by rw [HV.out.2]; exact HA.out.ext HE3.out, by rw [HR.out]; exact ⟨rfl, by decide, HRW.out⟩⟩
end Go.Proofs.YtehmgieocoppjaaDoor

/- (*kinref2.Reader).Align: its contract over this seat's translation. -/
namespace Go.Proofs.YtehmgieocoppjaaDoor
set_option linter.unusedVariables false
set_option linter.unusedSimpArgs false
open Go.RowKit Go.Extern.Stop Go.Stop Go.Extern

/-- a variable of type kinref.Err -/
def EvAt (w : World) (B : Nat) (c : Int) (u : Value) : Prop := w.cell? ⟨B, 0, none⟩ = some (.int .i64 c) ∧ w.cell? ⟨B, 1, none⟩ = some u ∧ w.frozen? ⟨B, 0, none⟩ = false ∧ w.frozen? ⟨B, 1, none⟩ = false
theorem EvAt.new (w : World) : EvAt (w.alloc (.cells #[.int .i64 0, .slice none 0 0] 39)) w.heap.size 0 (.slice none 0 0) := ResAt.new w
theorem EvAt.ext {w w' : World} {B : Nat} {c : Int} {u : Value} (h : EvAt w B c u) (k : Ext w w') : EvAt w' B c u := by
  obtain ⟨h0, h1, h2, h3⟩ := h
  exact ⟨k.cell h0, k.cell h1, (Below.frozen k (Ext.lt h0)).trans h2, (Below.frozen k (Ext.lt h1)).trans h3⟩
theorem EvAt.kp {w w' : World} {b B : Nat} {c : Int} {u : Value} (h : EvAt w B c u) (k : Kp b w w') (hb : B ≠ b) : EvAt w' B c u :=
  ⟨k.cell h.1 hb, k.cell h.2.1 hb, (k.frozen (p := ⟨B, 0, none⟩) (Ext.lt (p := ⟨B, 0, none⟩) h.1) hb).trans h.2.2.1, (k.frozen (p := ⟨B, 1, none⟩) (Ext.lt (p := ⟨B, 1, none⟩) h.2.1) hb).trans h.2.2.2⟩
theorem EvAt.set {w : World} {B : Nat} {c : Int} {u : Value} (h : EvAt w B c u) (c' : Int) (u' : Value) : EvAt ((w.setCell ⟨B, 0, none⟩ (.int .i64 c')).setCell ⟨B, 1, none⟩ u') B c' u' := by
  obtain ⟨h0, h1, h2, h3⟩ := h
  have e0 := World.cell?_setCell_same _ _ (.int .i64 c') h0
  have e1 := (World.cell?_setCell_other w ⟨B, 0, none⟩ ⟨B, 1, none⟩ (.int .i64 c') (by simp)).trans h1
  have e2 := World.cell?_setCell_same _ _ u' e1
  have e3 := (World.cell?_setCell_other (w.setCell ⟨B, 0, none⟩ (.int .i64 c')) ⟨B, 1, none⟩ ⟨B, 0, none⟩ u' (by simp)).trans e0
  exact ⟨e3, e2, by simpa using h2, by simpa using h3⟩
/-- an error whose path, if it has one, lies at or above a base -/
def RoIs (w : World) (B1 : Nat) (f : Fall) (c : Int) (u : Value) : Prop := match f with
  | none => c = 0 ∧ u = .slice none 0 0
  | some (p, k) => c = k ∧ k ≠ 0 ∧ w.ownsRow B1 81 2 u p.length (stepCells p)
theorem RoIs.to {w : World} {B1 : Nat} {f : Fall} {c : Int} {u : Value} (h : RoIs w B1 f c u) : RErrIs w f c u := by
  cases f with
  | none => exact h
  | some a => exact ⟨h.1, h.2.1, Row.of_owns h.2.2⟩
theorem RoIs.kp {w w' : World} {b B1 : Nat} {f : Fall} {c : Int} {u : Value} (h : RoIs w B1 f c u) (k : Kp b w w') (hb : b < B1) : RoIs w' B1 f c u := by
  cases f with
  | none => exact h
  | some a => exact ⟨h.1, h.2.1, h.2.2.kept k (by
      cases hu : u.ownBlock with
      | none => exact .inl rfl
      | some g => exact .inr (fun e => by have := (h.2.2.lt g hu).1; simp only [Option.some.injEq] at e; omega))⟩
theorem RoIs.form {w : World} {B1 : Nat} {f : Fall} {c : Int} {u : Value} (h : RoIs w B1 f c u) : ∃ a n cap, u = .slice a n cap := by
  cases f with
  | none => exact ⟨none, 0, 0, h.2⟩
  | some a =>
    rcases h.2.2.2 with ⟨h1, -⟩ | ⟨g, cap, cur, e, -⟩
    · exact ⟨_, _, _, h1⟩
    · exact ⟨_, _, _, e⟩
def RqaPost (w : World) (b B0 : Nat) (bs : List Nat) (q : Nat) (f : Fall) (e : Ending) (w' : World) : Prop := ∃ c u, e = .returned (.agg #[.int .i64 c, u]) ∧ Kp b w w' ∧ RqAt w' b bs q B0 ∧ RErrIs w' f c u
end Go.Proofs.YtehmgieocoppjaaDoor

/- kinref2.Writer: Put, Align: contracts over this seat's translation. -/
namespace Go.Proofs.YtehmgieocoppjaaDoor
set_option linter.unusedVariables false
set_option linter.unusedSimpArgs false
open Go.RowKit Go.Extern.Stop Go.Stop Go.Extern

theorem infoBool : (Tryd.prog.info? 4).map (fun i => (i.zero, i.size, i.bytes)) = some (some (.bool false), 1, 1) := by kernel_rfl
/-- bits as cells -/
def boC (l : List Bool) : List Value := l.map Value.bool
theorem boC_length (l : List Bool) : (boC l).length = l.length := by simp [boC]
theorem boC_app (l : List Bool) (x : Bool) : boC (l ++ [x]) = boC l ++ [.bool x] := by simp [boC]
def boBlk (w : World) (k : Nat) : Prop := ∃ cs fr, w.heap[k]? = some (.cells cs 4 fr)
/-- what a document's writer at b leaves as it was: what lies below B, and what is no block of bits -/
def XKp (b B : Nat) (w w' : World) : Prop := (w'.os = w.os ∧ w'.tape = w.tape ∧ w'.output = w.output) ∧ w.heap.size ≤ w'.heap.size ∧ ∀ k, k < w.heap.size → k ≠ b → (k < B ∨ ¬ boBlk w k) → w'.heap[k]? = w.heap[k]?
theorem XKp.refl (b B : Nat) (w : World) : XKp b B w w := ⟨⟨rfl, rfl, rfl⟩, Nat.le_refl _, fun _ _ _ _ => rfl⟩
theorem XKp.trans {b B : Nat} {u v w : World} (h : XKp b B u v) (k : XKp b B v w) : XKp b B u w := by
  obtain ⟨⟨h1, h2, h3⟩, h4, h5⟩ := h
  obtain ⟨⟨k1, k2, k3⟩, k4, k5⟩ := k
  refine ⟨⟨k1.trans h1, k2.trans h2, k3.trans h3⟩, Nat.le_trans h4 k4, fun i hi hb hk => ?_⟩
  have e := h5 i hi hb hk
  refine (k5 i (Nat.lt_of_lt_of_le hi h4) hb ?_).trans e
  rcases hk with hk | hk
  · exact .inl hk
  · exact .inr (fun ⟨cs, fr, h⟩ => hk ⟨cs, fr, e ▸ h⟩)
theorem XKp.of_ext {b B : Nat} {w w' : World} (h : Ext w w') : XKp b B w w' := ⟨⟨Below.os h, Below.tape h, Below.output h⟩, h.size, fun _ hi _ _ => h.block hi⟩
theorem XKp.out {b B : Nat} {u v w : World} (h : Ext u v) (k : XKp b B v w) (hb : u.heap.size ≤ b) (hB : u.heap.size ≤ B) : Ext u w :=
  Below.trans (c := w) h ⟨k.1.1, k.1.2.1, k.1.2.2, k.2.1, fun i hi => k.2.2 i (Nat.lt_of_lt_of_le hi h.size) (by omega) (.inl (by omega))⟩
/-- a document's writer: its bits -/
def XwAt (w : World) (b B : Nat) (l : List Bool) : Prop := ∃ v, (w.cell? ⟨b, 0, none⟩ = some v ∧ w.frozen? ⟨b, 0, none⟩ = false) ∧ w.ownsRow B 4 1 v l.length (boC l) ∧ (b < B ∧ B ≤ w.heap.size) ∧ l.length ≤ 1000000
theorem XwAt.ext {w w' : World} {b B : Nat} {l : List Bool} (h : XwAt w b B l) (k : Ext w w') : XwAt w' b B l := by
  obtain ⟨v, ⟨h0, h1⟩, h2, h3, h4⟩ := h
  exact ⟨v, ⟨k.cell h0, (Below.frozen (p := ⟨b, 0, none⟩) k (Ext.lt (p := ⟨b, 0, none⟩) h0)).trans h1⟩, h2.kept (row := none) ⟨Below.os k, Below.tape k, Below.output k, k.size, fun i hi _ => k.block hi⟩ (by cases hv : v.ownBlock <;> simp), ⟨h3.1, Nat.le_trans h3.2 k.size⟩, h4⟩
theorem bo_slice {w : World} {base n : Nat} {v : Value} {xs : List Value} (h : w.ownsRow base 4 1 v n xs) : ∃ a cap, v = .slice a n cap := by
  obtain ⟨hl, h⟩ := h
  rcases h with ⟨h1, h2⟩ | ⟨g, cap, cur, e, -⟩
  · exact ⟨none, 0, by rw [h1, h2]⟩
  · exact ⟨some ⟨g, 0, none⟩, cap, e⟩
/-- one bit appended, and stored -/
theorem XwAt.push {w w' : World} {b B : Nat} {l : List Bool} {v v' : Value} {x : Bool} {n : Nat} (hn : l.length = n) (h0 : w.cell? ⟨b, 0, none⟩ = some v) (h1 : w.frozen? ⟨b, 0, none⟩ = false) (ho : w.ownsRow B 4 1 v n (boC l)) (h3 : b < B ∧ B ≤ w.heap.size) (h4 : n < 1000000)
    (k1 : w'.ownsRow B 4 1 v' (n + 1) (boC l ++ [.bool x])) (k2 : w.grownBy w' v.ownBlock) : XwAt (w'.setCell ⟨b, 0, none⟩ v') b B (l ++ [x]) ∧ XKp b B w (w'.setCell ⟨b, 0, none⟩ v') ∧ w'.frozen? ⟨b, 0, none⟩ = false ∧ w'.cell? ⟨b, 0, none⟩ = some v := by
  subst hn
  have hbw := Ext.lt (p := ⟨b, 0, none⟩) h0
  have hbv : some b ≠ v.ownBlock := fun e => by have := (ho.lt b e.symm).1; omega
  have eb := k2.block b hbw hbv
  have c' := (World.cell?_of_block (a := ⟨b, 0, none⟩) eb).trans h0
  have f' := (World.frozen?_of_block (a := ⟨b, 0, none⟩) eb).trans h1
  refine ⟨⟨v', ⟨World.cell?_setCell_same _ _ _ c', by simpa using f'⟩, ?_, ⟨h3.1, Nat.le_trans h3.2 (Nat.le_trans k2.size (by simp))⟩, by simp; omega⟩, ⟨⟨k2.os, k2.tape, k2.output⟩, Nat.le_trans k2.size (by simp), fun i hi hb hk => ?_⟩, f', c'⟩
  · have : (l ++ [x]).length = l.length + 1 := by simp
    rw [this, boC_app]
    exact ownsRow_setCell_below k1 (a := ⟨b, 0, none⟩) h3.1 v'
  · refine (Below.heap_setCell w' ⟨b, 0, none⟩ v' i hb).trans (k2.block i hi ?_)
    intro e
    rcases ho.2 with ⟨rfl, -⟩ | ⟨g, cap, cur, rfl, hg, hgg, -⟩
    · simp [Value.ownBlock] at e
    · simp only [Value.ownBlock, Option.some.injEq] at e
      subst e
      rcases hk with hk | hk
      · omega
      · exact hk ⟨_, _, hgg⟩
theorem push_bo {ops : Array Oper} {rest : List Oper} {o : Oper} {a : Act} {Q : Exit → Act → World → Prop} {Wd : World} {base : Nat} (hgd : o.guard = none) (s y : Operand) (t : TypeId)
    (ho : o.op = .call { callee := .builtin .append, args := #[s, y], argTypes := #[t, t] }) (ht : Tryd.prog.underlying t = some (.slice 4))
    (v : Value) (n : Nat) (xs : List Value) (x : Bool) (hs : a.eval s = v) (hown : Wd.ownsRow base 4 1 v n xs) (hx : a.eval y = .slice (some ⟨Wd.heap.size, 0, none⟩) 1 1) (hb : base ≤ Wd.heap.size) (hn : n ≤ 1000000)
    (h : ∀ v' w', w'.ownsRow base 4 1 v' (n + 1) (xs ++ [.bool x]) → Wd.grownBy w' v.ownBlock → wpList Tryd.prog ops Q rest (a.put o.dst v') w') :
    wpList Tryd.prog ops Q (o :: rest) a (Wd.alloc (.cells #[.bool x] 4)) := by
  obtain ⟨i0, hi, hz0, hz1, hz2⟩ := info_parts infoBool
  refine wpList_append_own _ hgd s y t ho base 4 i0 _ 1 1 ht hi hz0 hz1 hz2 rfl (by decide) v n xs hs (hown.alloc _) ⟨Wd.heap.size, 0, none⟩ 1 1 [.bool x] hx rfl (World.news_of_block (cs := #[.bool x]) (t := 4) (fr := (0, 0)) (heap_alloc_new Wd _)) ?_ (by unfold maxLen; omega) (by omega) (by simp; omega) ?_
  · intro x hx
    simp only [List.mem_cons, List.not_mem_nil, or_false] at hx
    rcases hx with rfl
    rfl
  intro v' w' h1 h2 _
  refine h v' w' h1 ⟨h2.os, h2.tape, h2.output, Nat.le_trans (by simp) h2.size, fun k hk hne => ?_⟩
  exact (h2.block k (by simp; omega) hne).trans (Below.heap_alloc Wd _ k hk)
end Go.Proofs.YtehmgieocoppjaaDoor

/- kinref2.Writer: Align, Put: contracts over this seat's translation. -/
namespace Go.Proofs.YtehmgieocoppjaaDoor
set_option linter.unusedVariables false
set_option linter.unusedSimpArgs false
open Go.RowKit Go.Extern.Stop Go.Stop Go.Extern

def XAPost (w : World) (b B : Nat) (l : List Bool) (e : Ending) (w' : World) : Prop := e = .returned (.tuple #[]) ∧ XwAt w' b B l ∧ XKp b B w w'
set_option maxHeartbeats 4000000 in
set_option maxRecDepth 20000 in
theorem xwalign_any (b B : Nat) (l : List Bool) (w : World) (h : XwAt w b B l) (hl : l.length ≤ 900000) : Calls Tryd.prog 19 #[.pointer (some ⟨b, 0, none⟩)] w (XAPost w b B (wpad l)) := by
  obtain ⟨d, hd⟩ : ∃ d, (8 - l.length % 8) % 8 = d := ⟨_, rfl⟩
  have hw : wpad l = l ++ List.replicate d false := by rw [← hd]; rfl
  rw [hw]
  have HA := Lib.hid h
  have HD : Hid ((l.length + d) % 8 = 0 ∧ d < 8) := ⟨by omega, by omega⟩
  clear h hw
  have hd8 : d < 8 := HD.out.2
  clear hd
  go_enter Tryd.func19, Tryd.ntmps19
  go_wp2_with fail
  go_loopg [] (d) (fun q wr => ∃ k, k + q = d ∧ Hid (XwAt wr b B (l ++ List.replicate k false)) ∧ Hid (XKp b B w wr))
  case atStart => exact ⟨0, by omega, by show XwAt _ _ _ _; rw [List.replicate_zero, List.append_nil]; exact HA.out, XKp.refl _ _ _⟩
  case round =>
    clear HA
    obtain ⟨k, hk, HX, HK⟩ := hrel
    obtain ⟨v, ⟨c0, f0⟩, ho, hbB, hll⟩ := HX.out
    obtain ⟨a, cap, rfl⟩ := bo_slice ho
    obtain ⟨n, hn⟩ : ∃ n, (l ++ List.replicate k false).length = n := ⟨_, rfl⟩
    have hn2 : l.length + k = n := by rw [← hn, List.length_append, List.length_replicate]
    have HO : Hid (wr.ownsRow B 4 1 (.slice a n cap) n (boC (l ++ List.replicate k false))) := by show World.ownsRow _ _ _ _ _ _ _; rw [← hn]; exact ho
    have HC : Hid (wr.cell? ⟨b, 0, none⟩ = some (.slice a n cap) ∧ wr.frozen? ⟨b, 0, none⟩ = false) := ⟨by rw [← hn]; exact c0, f0⟩
    have HN := Lib.hid hn
    have hBs : B ≤ wr.heap.size := hbB.2
    have HBB := Lib.hid hbB
    rw [hn] at c0
    clear ho hn hll hbB
    by_cases hkd : k = d
    · have m0 : ((n : Int) % 8 != 0) = false := by rw [bne_eq_false_iff_eq]; have := HD.out.1; omega
      have i1 : (n : Int) % 8 = 0 := by have := HD.out.1; omega
      have HKD := Lib.hid hkd
      clear hkd hk
      go_wp2
      go_end0
      exact ⟨rfl, by rw [← HKD.out]; exact HX.out, HK.out⟩
    · obtain ⟨r, hr⟩ : ∃ r, n % 8 = r := ⟨_, rfl⟩
      have i1 : (n : Int) % 8 = (r : Int) := by omega
      have m0 : ((r : Int) != 0) = true := by rw [bne_iff_ne]; have := HD.out.1; omega
      have hn6 : n ≤ 1000000 := by omega
      have HJ : Hid (k + 1 + (d - (k + 1)) = d ∧ k + 1 ≤ d ∧ n < 1000000) := ⟨by omega, by omega, by omega⟩
      clear hr hn2 hkd
      go_wp2_with (at_builtin; refine push_bo rfl _ _ 27 rfl Tryd.underlying27 _ n _ false rfl HO.out (by show Value.slice (some ⟨wr.heap.size, 0, none⟩) 1 1 = _; simp) hBs hn6 ?_; intro v8 w8 h1 h2; obtain ⟨a8, cp8, rfl⟩ := bo_slice h1; have HP := Lib.hid (XwAt.push HN.out HC.out.1 HC.out.2 HO.out HBB.out HJ.out.2.2 h1 h2); obtain ⟨-, -, f8, c8⟩ := HP.out; clear h1 h2)
      go_roundg (d - (k + 1))
      all_goals first
        | exact ⟨k + 1, HJ.out.1, by show XwAt _ _ _ _; rw [List.replicate_succ', ← List.append_assoc]; exact HP.out.1, HK.out.trans HP.out.2.1⟩
        | (have := HJ.out.2.1; omega)
end Go.Proofs.YtehmgieocoppjaaDoor

/- (*kinref2.Writer).Put: its contract over this seat's translation. -/
namespace Go.Proofs.YtehmgieocoppjaaDoor
set_option linter.unusedVariables false
set_option linter.unusedSimpArgs false
open Go.RowKit Go.Extern.Stop Go.Stop Go.Extern

theorem xi_eq {a b : Int} (h : a = b) : Value.int .i64 a = .int .i64 b := by rw [h]
theorem ResAt.of_box {w : World} {R : Nat} {T : TypeId} (h : w.heap[R]? = some (.cells #[.int .i64 0, .slice none 0 0] T (0, 0))) : ResAt w R := by
  simp [ResAt, World.cell?, World.frozen?, h]
theorem XwAt.far {w w' : World} {b B R : Nat} {l : List Bool} {cs : Array Value} {T : TypeId} (h : XwAt w b B l) (hR : w.heap[R]? = some (.cells cs T (0, 0))) (hT : T ≠ 4) (k : Kp R w w') (hb : b ≠ R) : XwAt w' b B l := by
  obtain ⟨v, ⟨c0, f0⟩, ho, h3, h4⟩ := h
  refine ⟨v, ⟨k.cell c0 hb, (k.frozen (p := ⟨b, 0, none⟩) (Ext.lt (p := ⟨b, 0, none⟩) c0) hb).trans f0⟩, ho.kept k ?_, ⟨h3.1, Nat.le_trans h3.2 k.size⟩, h4⟩
  rcases ho.2 with ⟨rfl, -⟩ | ⟨g, cap, cur, rfl, -, hgg, -⟩
  · exact .inl rfl
  · right
    intro e
    simp only [Value.ownBlock, Option.some.injEq] at e
    subst e
    rw [hR] at hgg
    simp only [Option.some.injEq, Obj.cells.injEq] at hgg
    exact hT hgg.2.1
theorem XKp.box {w w' : World} {b B R : Nat} {cs : Array Value} {T : TypeId} {fr : Nat × Nat} (k : XKp b B w w') (h : w.heap[R]? = some (.cells cs T fr)) (hT : T ≠ 4) (hb : R ≠ b) : w'.heap[R]? = some (.cells cs T fr) :=
  (k.2.2 R (Array.getElem?_eq_some_iff.1 h).1 hb (.inr (fun ⟨cs', fr', e⟩ => by
    rw [h] at e
    simp only [Option.some.injEq, Obj.cells.injEq] at e
    exact hT e.2.1))).trans h
theorem XKp.fresh {b B : Nat} {u v : World} (h : XKp b B u v) {R : Nat} (hR : u.heap.size ≤ R) (o : Nat) (x : Value) : XKp b B u (v.setCell ⟨R, o, none⟩ x) := by
  obtain ⟨⟨h1, h2, h3⟩, h4, h5⟩ := h
  exact ⟨⟨h1, h2, h3⟩, Nat.le_trans h4 (by simp), fun i hi hn hk => (Below.heap_setCell v ⟨R, o, none⟩ x i (show i ≠ R by omega)).trans (h5 i hi hn hk)⟩
def XPPost (w : World) (b B : Nat) (l : List Bool) (f : Fall) (e : Ending) (w' : World) : Prop := ∃ c u, e = .returned (.agg #[.int .i64 c, u]) ∧ XwAt w' b B l ∧ XKp b B w w' ∧ RErrIs w' f c u
set_option maxHeartbeats 4000000 in
set_option maxRecDepth 20000 in
theorem xwput_yes (b B V N : Nat) (l : List Bool) (w : World) (h : XwAt w b B l) (hl : l.length ≤ 900000) (hV : V < 2 ^ N) (hN : N ≤ 32) :
    Calls Tryd.prog 16 #[.pointer (some ⟨b, 0, none⟩), .int .i64 (V : Int), .int .i64 (N : Int)] w (XPPost w b B (l ++ bsOf V N) none) := by
  have hMb : 2 ^ N ≤ 2 ^ 32 := Nat.pow_le_pow_right (by decide) hN
  have HX0 := Lib.hid h
  have hbw : b < w.heap.size := by obtain ⟨v, ⟨c0, -⟩, -⟩ := h; exact Ext.lt (p := ⟨b, 0, none⟩) c0
  obtain ⟨M, hM⟩ : ∃ M, 2 ^ N = M := ⟨_, rfl⟩
  have i9 : (2 : Int) ^ N = (M : Int) := by rw [← hM]; simp
  rw [hM] at hV hMb
  have j1 : IntKind.i64.wrap (1 * 2 ^ N) = (M : Int) := by rw [i9, IntKind.wrap_i64]; omega
  have j2 : IntKind.i64.wrap (M : Int) = (M : Int) := by rw [IntKind.wrap_i64]; omega
  have j3 : IntKind.u64.wrap (N : Int) = (N : Int) := by rw [IntKind.wrap_u64]; omega
  have j4 : ¬ (M : Int) ≤ (V : Int) := by omega
  have j5 : IntKind.i64.wrap ((N : Int) - 1) = (N : Int) - 1 := by rw [IntKind.wrap_i64]; omega
  have m9 : (0 : Int) ≤ (N : Int) ∧ (N : Int) ≤ 64 := by omega
  have HB0 : Hid (∀ w : World, (w.alloc (.cells #[.int .i64 0, .slice none 0 0] 39)).heap[w.heap.size]? = some (.cells #[.int .i64 0, .slice none 0 0] 39 (0, 0))) := fun w => heap_alloc_new w _
  clear h hM
  go_enter Tryd.func16, Tryd.ntmps16
  go_wp2_with fail
  go_loopw [7] (fun iv wr => ∃ k, k ≤ N ∧ iv = .int .i64 ((N : Int) - 1 - (k : Int)) ∧ Hid (XwAt wr b B (l ++ (bsOf V N).take k)) ∧ Hid (XKp b B w wr) ∧ Hid (wr.heap[w.heap.size]? = some (.cells #[.int .i64 0, .slice none 0 0] 39 (0, 0)))) (fun iv _ => (intOf iv + 1).toNat)
  case atStart => exact ⟨0, Nat.zero_le _, xi_eq (by omega), by show XwAt _ _ _ _; rw [List.take_zero, List.append_nil]; exact HX0.out.ext ((Ext.refl w).alloc _), XKp.of_ext ((Ext.refl w).alloc _), HB0.out w⟩
  case round =>
    clear HX0 HB0
    obtain ⟨k, hk, rfl, HX, HK, HG⟩ := hrel
    by_cases hlt : k < N
    · obtain ⟨v, ⟨c0, f0⟩, ho, hbB, hll⟩ := HX.out
      obtain ⟨a, cap, rfl⟩ := bo_slice ho
      obtain ⟨q, hn⟩ : ∃ q, (l ++ (bsOf V N).take k).length = q := ⟨_, rfl⟩
      have hq : l.length + k = q := by rw [← hn, List.length_append, List.length_take, bsOf_length]; omega
      have HO : Hid (wr.ownsRow B 4 1 (.slice a q cap) q (boC (l ++ (bsOf V N).take k))) := by show World.ownsRow _ _ _ _ _ _ _; rw [← hn]; exact ho
      have HC : Hid (wr.cell? ⟨b, 0, none⟩ = some (.slice a q cap) ∧ wr.frozen? ⟨b, 0, none⟩ = false) := ⟨by rw [← hn]; exact c0, f0⟩
      have HN := Lib.hid hn
      have hBs : B ≤ wr.heap.size := hbB.2
      have HBB := Lib.hid hbB
      rw [hn] at c0
      obtain ⟨I, hI⟩ : ∃ I : Nat, I = N - 1 - k := ⟨_, rfl⟩
      have e1 : (N : Int) - 1 - (k : Int) = (I : Int) := by omega
      rw [e1]
      have hn6 : q ≤ 1000000 := by omega
      have hbit := bsOf_get V N k hlt
      rw [← hI] at hbit
      have hTk : (bsOf V N).take (k + 1) = (bsOf V N).take k ++ [decide (V / 2 ^ I % 2 = 1)] := by rw [List.take_add_one, hbit]; rfl
      obtain ⟨x, hx⟩ : ∃ x, V / 2 ^ I = x := ⟨_, rfl⟩
      have hxV : x ≤ V := by rw [← hx]; exact Nat.div_le_self _ _
      rw [hx] at hTk
      have k1 : (V : Int) / 2 ^ I = (x : Int) := by rw [← hx]; simp
      have k2 : IntKind.u64.wrap (I : Int) = (I : Int) := by rw [IntKind.wrap_u64]; omega
      have k3 : (0 : Int) ≤ (I : Int) ∧ (I : Int) ≤ 64 := by omega
      have k4 : IntKind.i64.wrap ((I : Int) - 1) = (I : Int) - 1 := by rw [IntKind.wrap_i64]; omega
      have k5 : IntKind.i64.wrap (x : Int) = (x : Int) := by rw [IntKind.wrap_i64]; omega
      have HJ : Hid (k + 1 ≤ N ∧ q < 1000000) := ⟨by omega, by omega⟩
      have hIk : I + k + 1 = N := by omega
      clear ho hn hll hbB hbit hx hI hq
      by_cases hy : x % 2 = 1
      · have b1 : bits .and .i64 (x : Int) 1 = 1 := (and_mask x 1 (by omega) (by decide)).trans (by rw [show x % 2 ^ 1 = 1 from hy]; rfl)
        have HT : Hid ((bsOf V N).take (k + 1) = (bsOf V N).take k ++ [true]) := by show _ = _; rw [hTk, hy]; rfl
        clear hTk hy
        go_wp2_with (at_builtin; refine push_bo rfl _ _ 27 rfl Tryd.underlying27 _ q _ true rfl HO.out (by show Value.slice (some ⟨wr.heap.size, 0, none⟩) 1 1 = _; simp) hBs hn6 ?_; intro v8 w8 h1 h2; obtain ⟨a8, cp8, rfl⟩ := bo_slice h1; have HP := Lib.hid (XwAt.push HN.out HC.out.1 HC.out.2 HO.out HBB.out HJ.out.2 h1 h2); obtain ⟨-, -, f8, c8⟩ := HP.out; clear h1 h2)
        go_roundw
        case rel => exact ⟨k + 1, HJ.out.1, xi_eq (by omega), by show XwAt _ _ _ _; rw [HT.out, ← List.append_assoc]; exact HP.out.1, HK.out.trans HP.out.2.1, HP.out.2.1.box HG.out (by decide) (by omega)⟩
        case measure => simp only [intOf]; omega
      · have hy0 : x % 2 = 0 := by omega
        have b1 : bits .and .i64 (x : Int) 1 = 0 := (and_mask x 1 (by omega) (by decide)).trans (by rw [show x % 2 ^ 1 = 0 from hy0]; rfl)
        have HT : Hid ((bsOf V N).take (k + 1) = (bsOf V N).take k ++ [false]) := by show _ = _; rw [hTk, hy0]; rfl
        clear hTk hy hy0
        go_wp2_with (at_builtin; refine push_bo rfl _ _ 27 rfl Tryd.underlying27 _ q _ false rfl HO.out (by show Value.slice (some ⟨wr.heap.size, 0, none⟩) 1 1 = _; simp) hBs hn6 ?_; intro v8 w8 h1 h2; obtain ⟨a8, cp8, rfl⟩ := bo_slice h1; have HP := Lib.hid (XwAt.push HN.out HC.out.1 HC.out.2 HO.out HBB.out HJ.out.2 h1 h2); obtain ⟨-, -, f8, c8⟩ := HP.out; clear h1 h2)
        go_roundw
        case rel => exact ⟨k + 1, HJ.out.1, xi_eq (by omega), by show XwAt _ _ _ _; rw [HT.out, ← List.append_assoc]; exact HP.out.1, HK.out.trans HP.out.2.1, HP.out.2.1.box HG.out (by decide) (by omega)⟩
        case measure => simp only [intOf]; omega
    · obtain rfl : k = N := by omega
      have e1 : (k : Int) - 1 - (k : Int) = -1 := by omega
      rw [e1]
      have HX9 : Hid (XwAt wr b B (l ++ bsOf V k)) := by
        have := HX.out
        rw [List.take_of_length_le (by rw [bsOf_length]; exact Nat.le_refl _)] at this
        exact this
      obtain ⟨g0, g1, g2, g3⟩ := ResAt.of_box HG.out
      clear HX e1
      go_wp2
      obtain ⟨e0, e1⟩ := res_cells g0 g1 (c := 0) (.slice none 0 0)
      exact bodyPost_ret (v := .agg #[.int .i64 0, .slice none 0 0]) (by simp [results, Tryd.results16, go_sem, e0, e1]) rfl ⟨0, .slice none 0 0, rfl, HX9.out.far HG.out (by decide) (((Kp.refl w.heap.size wr).set 0 _).set 1 _) (by omega), (HK.out.fresh (Nat.le_refl _) 0 _).fresh (Nat.le_refl _) 1 _, rfl, rfl⟩
set_option maxHeartbeats 4000000 in
set_option maxRecDepth 20000 in
theorem xwput_any (b B : Nat) (v n : Int) (l : List Bool) (w : World) (h : XwAt w b B l) (hl : l.length ≤ 900000) :
    Calls Tryd.prog 16 #[.pointer (some ⟨b, 0, none⟩), .int .i64 v, .int .i64 n] w (XPPost w b B (wpL l v n) (wpF v n)) := by
  by_cases h1 : n < 0
  · have hno : ¬ putOk v n := fun ⟨k, _⟩ => by omega
    have HF : Hid (wpF v n = range) := by show _ = _; unfold wpF; rw [if_neg hno]
    have HL : Hid (wpL l v n = l) := by show _ = _; unfold wpL; rw [if_neg hno]
    clear hno
    go_enter Tryd.func16, Tryd.ntmps16
    go_wp2_with fail
    refine (fail_any 3 _).mono ?_; rintro e w1 ⟨rfl, hx1⟩
    have R1 := (ResAt.new w).ext hx1
    obtain ⟨g0, g1, g2, g3⟩ := R1
    have E1 := ((Ext.refl w).alloc (.cells #[.int .i64 0, .slice none 0 0] 39)).trans hx1
    have HE2 := Lib.hid ((E1.setCell (p := ⟨w.heap.size, 0, none⟩) (Nat.le_refl _) (.int .i64 3)).setCell (p := ⟨w.heap.size, 1, none⟩) (Nat.le_refl _) (.slice none 0 0))
    clear E1
    go_wp2
    obtain ⟨e0, e1⟩ := res_cells g0 g1 (c := 3) (.slice none 0 0)
    exact bodyPost_ret (v := .agg #[.int .i64 3, .slice none 0 0]) (by simp [results, Tryd.results16, go_sem, e0, e1]) rfl ⟨3, .slice none 0 0, rfl, by rw [HL.out]; exact h.ext HE2.out, XKp.of_ext HE2.out, by rw [HF.out]; exact RErrIs.code (by decide)⟩
  · by_cases h2 : 32 < n
    · have hno : ¬ putOk v n := fun ⟨k, _⟩ => by omega
      have HF : Hid (wpF v n = range) := by show _ = _; unfold wpF; rw [if_neg hno]
      have HL : Hid (wpL l v n = l) := by show _ = _; unfold wpL; rw [if_neg hno]
      clear hno
      go_enter Tryd.func16, Tryd.ntmps16
      go_wp2_with fail
      refine (fail_any 3 _).mono ?_; rintro e w1 ⟨rfl, hx1⟩
      have R1 := (ResAt.new w).ext hx1
      obtain ⟨g0, g1, g2, g3⟩ := R1
      have E1 := ((Ext.refl w).alloc (.cells #[.int .i64 0, .slice none 0 0] 39)).trans hx1
      have HE2 := Lib.hid ((E1.setCell (p := ⟨w.heap.size, 0, none⟩) (Nat.le_refl _) (.int .i64 3)).setCell (p := ⟨w.heap.size, 1, none⟩) (Nat.le_refl _) (.slice none 0 0))
      clear E1
      go_wp2
      obtain ⟨e0, e1⟩ := res_cells g0 g1 (c := 3) (.slice none 0 0)
      exact bodyPost_ret (v := .agg #[.int .i64 3, .slice none 0 0]) (by simp [results, Tryd.results16, go_sem, e0, e1]) rfl ⟨3, .slice none 0 0, rfl, by rw [HL.out]; exact h.ext HE2.out, XKp.of_ext HE2.out, by rw [HF.out]; exact RErrIs.code (by decide)⟩
    · by_cases h3 : v < 0
      · have hno : ¬ putOk v n := fun ⟨_, k⟩ => by omega
        have HF : Hid (wpF v n = range) := by show _ = _; unfold wpF; rw [if_neg hno]
        have HL : Hid (wpL l v n = l) := by show _ = _; unfold wpL; rw [if_neg hno]
        clear hno
        go_enter Tryd.func16, Tryd.ntmps16
        go_wp2_with fail
        refine (fail_any 3 _).mono ?_; rintro e w1 ⟨rfl, hx1⟩
        have R1 := (ResAt.new w).ext hx1
        obtain ⟨g0, g1, g2, g3⟩ := R1
        have E1 := ((Ext.refl w).alloc (.cells #[.int .i64 0, .slice none 0 0] 39)).trans hx1
        have HE2 := Lib.hid ((E1.setCell (p := ⟨w.heap.size, 0, none⟩) (Nat.le_refl _) (.int .i64 3)).setCell (p := ⟨w.heap.size, 1, none⟩) (Nat.le_refl _) (.slice none 0 0))
        clear E1
        go_wp2
        obtain ⟨e0, e1⟩ := res_cells g0 g1 (c := 3) (.slice none 0 0)
        exact bodyPost_ret (v := .agg #[.int .i64 3, .slice none 0 0]) (by simp [results, Tryd.results16, go_sem, e0, e1]) rfl ⟨3, .slice none 0 0, rfl, by rw [HL.out]; exact h.ext HE2.out, XKp.of_ext HE2.out, by rw [HF.out]; exact RErrIs.code (by decide)⟩
      · obtain ⟨N, rfl⟩ : ∃ N : Nat, n = (N : Int) := ⟨n.toNat, by omega⟩
        obtain ⟨V, rfl⟩ : ∃ V : Nat, v = (V : Int) := ⟨v.toNat, by omega⟩
        have ep : ((2 ^ N : Nat) : Int) = (2 : Int) ^ N := by simp
        by_cases h4 : V < 2 ^ N
        · have hok : putOk (V : Int) (N : Int) := ⟨by omega, by omega, by rw [Int.toNat_natCast, ← ep]; omega⟩
          have e1 : wpF (V : Int) (N : Int) = none := by unfold wpF; rw [if_pos hok]
          have e2 : wpL l (V : Int) (N : Int) = l ++ bsOf V N := by unfold wpL; rw [if_pos hok]; rfl
          rw [e1, e2]
          exact xwput_yes b B V N l w h hl h4 (by omega)
        · have hno : ¬ putOk (V : Int) (N : Int) := fun ⟨_, _, k⟩ => by rw [Int.toNat_natCast, ← ep] at k; omega
          have hMb : 2 ^ N ≤ 2 ^ 32 := Nat.pow_le_pow_right (by decide) (by omega)
          obtain ⟨M, hM⟩ : ∃ M, 2 ^ N = M := ⟨_, rfl⟩
          have i9 : (2 : Int) ^ N = (M : Int) := by rw [← hM]; simp
          rw [hM] at h4 hMb
          have j1 : IntKind.i64.wrap (1 * 2 ^ N) = (M : Int) := by rw [i9, IntKind.wrap_i64]; omega
          have j2 : IntKind.i64.wrap (M : Int) = (M : Int) := by rw [IntKind.wrap_i64]; omega
          have j3 : IntKind.u64.wrap (N : Int) = (N : Int) := by rw [IntKind.wrap_u64]; omega
          have j4 : (M : Int) ≤ (V : Int) := by omega
          have m9 : (0 : Int) ≤ (N : Int) ∧ (N : Int) ≤ 64 := by omega
          obtain ⟨n, hn⟩ : ∃ n : Int, n = (N : Int) := ⟨_, rfl⟩
          obtain ⟨v, hv⟩ : ∃ v : Int, v = (V : Int) := ⟨_, rfl⟩
          clear ep hM
          have HF : Hid (wpF (V : Int) (N : Int) = range) := by show _ = _; unfold wpF; rw [if_neg hno]
          have HL : Hid (wpL l (V : Int) (N : Int) = l) := by show _ = _; unfold wpL; rw [if_neg hno]
          clear hno hn hv
          go_enter Tryd.func16, Tryd.ntmps16
          go_wp2_with fail
          refine (fail_any 3 _).mono ?_; rintro e w1 ⟨rfl, hx1⟩
          have R1 := (ResAt.new w).ext hx1
          obtain ⟨g0, g1, g2, g3⟩ := R1
          have E1 := ((Ext.refl w).alloc (.cells #[.int .i64 0, .slice none 0 0] 39)).trans hx1
          have HE2 := Lib.hid ((E1.setCell (p := ⟨w.heap.size, 0, none⟩) (Nat.le_refl _) (.int .i64 3)).setCell (p := ⟨w.heap.size, 1, none⟩) (Nat.le_refl _) (.slice none 0 0))
          clear E1
          go_wp2
          obtain ⟨e0, e1⟩ := res_cells g0 g1 (c := 3) (.slice none 0 0)
          exact bodyPost_ret (v := .agg #[.int .i64 3, .slice none 0 0]) (by simp [results, Tryd.results16, go_sem, e0, e1]) rfl ⟨3, .slice none 0 0, rfl, by rw [HL.out]; exact h.ext HE2.out, XKp.of_ext HE2.out, by rw [HF.out]; exact RErrIs.code (by decide)⟩
end Go.Proofs.YtehmgieocoppjaaDoor

/- (*kinref2.Writer).Bytes: its contract over this seat's translation. -/
namespace Go.Proofs.YtehmgieocoppjaaDoor
set_option linter.unusedVariables false
set_option linter.unusedSimpArgs false
open Go.RowKit Go.Extern.Stop Go.Stop Go.Extern

/-- bytes that the call itself made -/
def BcAt (w : World) (g n : Nat) (f : Nat → Nat) : Prop := ∀ j, j < n → w.cell? ⟨g, j, none⟩ = some (.int .u8 (f j : Int)) ∧ w.frozen? ⟨g, j, none⟩ = false
theorem BcAt.of {w : World} {base n g cap : Nat} {xs : List Value} (h : w.ownsRow base 5 1 (.slice (some ⟨g, 0, none⟩) n cap) n xs) (hx : ∀ j, j < n → xs[j]? = some (.int .u8 0)) : BcAt w g n (fun _ => 0) := fun j hj => by
  obtain ⟨hl, h' | ⟨g', cap', cur, e', hb, hg, h1, h2, hs, ht⟩⟩ := h
  · cases h'.1
  · simp only [Value.slice.injEq, Option.some.injEq, Addr.mk.injEq, and_true, true_and] at e'
    obtain ⟨rfl, rfl⟩ := e'
    have := hx j hj
    rw [← ht, List.getElem?_take] at this
    refine ⟨?_, by simp [World.frozen?, hg]⟩
    split at this
    · simp [World.cell?, hg]
      simpa using this
    · cases this
theorem BcAt.set {w : World} {g n i : Nat} {f : Nat → Nat} {y : Nat} (h : BcAt w g n f) : BcAt (w.setCell ⟨g, i, none⟩ (.int .u8 (y : Int))) g n (fun j => if j = i then y else f j) := fun j hj => by
  obtain ⟨c, fz⟩ := h j hj
  refine ⟨?_, by simpa using fz⟩
  show (w.setCell ⟨g, i, none⟩ (.int .u8 (y : Int))).cell? ⟨g, j, none⟩ = some (.int .u8 ((if j = i then y else f j : Nat) : Int))
  by_cases hij : j = i
  · subst hij
    rw [if_pos rfl]
    exact World.cell?_setCell_same _ _ _ c
  · rw [if_neg hij]
    exact (cell_off_ne _ (Ne.symm hij)).trans c
theorem BcAt.congr {w : World} {g n : Nat} {f f' : Nat → Nat} (h : BcAt w g n f) (e : ∀ j, j < n → f j = f' j) : BcAt w g n f' := fun j hj => by
  rw [← e j hj]; exact h j hj
theorem BcAt.bys {w : World} {g n : Nat} {l : List Bool} (h : BcAt w g n (pkB l)) (hn : n = (l.length + 7) / 8) (hm : n ≤ 1000000) : Bys w (.slice (some ⟨g, 0, none⟩) n n) (pkL l) := by
  have hl : (pkL l).length = n := by rw [pkL_length, hn]
  refine ⟨⟨some ⟨g, 0, none⟩, n, by rw [hl], by rw [hl]; exact Nat.le_refl _, by unfold maxLen; omega, fun _ => ⟨g, 0, rfl⟩, fun g' off ha j u hu => ?_⟩, pkL_lt l, by omega⟩
  simp only [Option.some.injEq, Addr.mk.injEq, and_true] at ha
  obtain ⟨rfl, rfl⟩ := ha
  have hj : j < n := by have := (List.getElem?_eq_some_iff.1 hu).1; rw [List.length_map, hl] at this; exact this
  rw [List.getElem?_map, pkL_get (by omega)] at hu
  simp only [Option.map_some, Option.some.injEq] at hu
  subst hu
  rw [Nat.zero_add]
  exact (h j hj).1
theorem pkB_snoc0 (l : List Bool) (j : Nat) : pkB (l ++ [false]) j = pkB l j := nmF_congr fun i _ => bL_pad l 1 _
theorem pkB_snoc1 (l : List Bool) (j : Nat) : pkB (l ++ [true]) j = if j = l.length / 8 then pkB l (l.length / 8) + 2 ^ (7 - l.length % 8) else pkB l j := by
  by_cases h : j = l.length / 8
  · subst h
    rw [if_pos rfl]
    have := pk_put l 1 1 (by decide) (by omega)
    rw [show bsOf 1 1 = [true] by decide, Nat.one_mul, show 8 - l.length % 8 - 1 = 7 - l.length % 8 by omega] at this
    exact this
  · rw [if_neg h]
    by_cases h2 : j < l.length / 8
    · exact pk_old l [true] j (by omega)
    · rw [pkB_end (l := l) (by omega), pkB_end (by rw [List.length_append]; simp; omega)]
theorem or_bit (l : List Bool) : bits .or .u8 (pkB l (l.length / 8) : Int) ((2 ^ (7 - l.length % 8) : Nat) : Int) = ((pkB l (l.length / 8) + 2 ^ (7 - l.length % 8) : Nat) : Int) := by
  obtain ⟨q, hq⟩ := pk_free l
  have hb : pkB (l ++ [true]) (l.length / 8) < 256 := pkB_lt _ _
  rw [pkB_snoc1, if_pos rfl] at hb
  rw [hq] at hb ⊢
  exact or_byte q (2 ^ (7 - l.length % 8)) (8 - l.length % 8) (Nat.pow_lt_pow_right (by decide) (by omega)) hb
def XBPost (w : World) (bs : List Nat) (e : Ending) (w' : World) : Prop := ∃ g n, e = .returned (.slice (some ⟨g, 0, none⟩) n n) ∧ Bys w' (.slice (some ⟨g, 0, none⟩) n n) bs ∧ Ext w w'
theorem zeros_u8 (n : Nat) : ∀ j, j < n → (madeCells (Value.int .u8 0).cells (n * 1)).toList[j]? = some (.int .u8 0) := fun j hj => by
  simp [madeCells, Value.cells, hj, Nat.mod_one]
set_option maxHeartbeats 4000000 in
set_option maxRecDepth 20000 in
theorem xwbytes_any (b B : Nat) (l : List Bool) (w : World) (h : XwAt w b B l) : Calls Tryd.prog 23 #[.pointer (some ⟨b, 0, none⟩)] w (XBPost w (pkL l)) := by
  obtain ⟨i0, hi, hz0, hz1, hz2⟩ := info_parts infoU8
  have HX := Lib.hid h
  obtain ⟨v, ⟨c0, f0⟩, ho, hbB, hll⟩ := h
  obtain ⟨a, cap, rfl⟩ := bo_slice ho
  obtain ⟨m, hm⟩ : ∃ m, l.length = m := ⟨_, rfl⟩
  obtain ⟨n, hn⟩ : ∃ n, n = (m + 7) / 8 := ⟨_, rfl⟩
  rw [hm] at c0 hll
  have HM := Lib.hid hm
  have HN := Lib.hid hn
  have j1 : IntKind.i64.wrap ((m : Int) + 7) = (m : Int) + 7 := by rw [IntKind.wrap_i64]; omega
  have j2 : Int.tdiv ((m : Int) + 7) 8 = (n : Int) := by rw [Int.tdiv_eq_ediv_of_nonneg (by omega)]; omega
  have j3 : ((m : Int) + 7) / 8 = (n : Int) := by omega
  have hn6 : n ≤ 1000000 := by omega
  have HR : Hid (Row w (.slice a m cap) m (boC l)) := by show Row _ _ _ _; rw [← hm]; exact Row.of_owns ho
  have HC0 := Lib.hid c0
  clear ho hbB hm hn HX
  go_enter Tryd.func23, Tryd.ntmps23
  go_wp2_with (at_make; refine wpList_make_full _ rfl _ _ 43 rfl w.heap.size 5 i0 (.int .u8 0) 1 Tryd.underlying43 hi hz0 hz1 .i64 .i64 _ _ n rfl rfl rfl rfl (by rw [hz2]; omega) (by unfold maxLen; omega) (Nat.le_refl _) ?_; intro w2 hown hgrow)
  have hE : Ext w w2 := Below.grown (Ext.refl w) hgrow (Nat.le_refl _) (fun k hk => by cases hk)
  have HB2 := Lib.hid (BcAt.of hown (zeros_u8 n))
  have HE2 := Lib.hid hE
  clear hown hgrow hi hz0 hz1 hz2 hE c0 f0
  go_wp2_with fail
  go_loopw [4] (fun iv wr => ∃ i : Nat, i ≤ m ∧ iv = .int .i64 (i : Int) ∧ Hid (BcAt wr w.heap.size n (pkB (l.take i))) ∧ Hid (Ext w wr)) (fun iv _ => m - (intOf iv).toNat)
  case atStart => exact ⟨0, Nat.zero_le _, rfl, HB2.out.congr (fun j _ => by rw [List.take_zero]; exact (pkB_end (l := []) (by simp)).symm), HE2.out⟩
  case round =>
    clear HB2 HE2
    obtain ⟨i, him, rfl, HB, HE⟩ := hrel
    have c0 := HE.out.cell HC0.out
    by_cases hlt : i < m
    · obtain ⟨a', cap', e, h1, h2, h3, h4⟩ := HR.out
      simp only [Value.slice.injEq, true_and] at e
      obtain ⟨rfl, rfl⟩ := e
      obtain ⟨g, off, rfl⟩ := h3 (by omega)
      obtain ⟨x, hx⟩ : ∃ x, l[i]? = some x := ⟨_, List.getElem?_eq_getElem (by rw [HM.out]; exact hlt)⟩
      have cx := HE.out.cell (h4 g off rfl i (.bool x) (by unfold boC; rw [List.getElem?_map, hx]; rfl))
      have htk : l.take (i + 1) = l.take i ++ [x] := by rw [List.take_add_one, hx]; rfl
      have hlen : (l.take i).length = i := by rw [List.length_take, HM.out]; omega
      have x1 : (0 : Int) ≤ (i : Int) := by omega
      have x2 : (i : Int) < (m : Int) := by omega
      clear h3 h4 h1 h2 hx
      cases x with
      | false =>
        have HT := Lib.hid htk
        clear htk hlen
        go_wp2
        go_roundw
        case rel => exact ⟨i + 1, by omega, by go_num, HB.out.congr (fun j _ => by rw [HT.out, pkB_snoc0]), HE.out⟩
        case measure => simp [intOf]; omega
      | true =>
        obtain ⟨q, hq⟩ : ∃ q, i / 8 = q := ⟨_, rfl⟩
        obtain ⟨r, hr⟩ : ∃ r, i % 8 = r := ⟨_, rfl⟩
        have hqn : q < n := by have := HN.out; omega
        obtain ⟨cq, fq⟩ := HB.out q hqn
        have ho := or_bit (l.take i)
        have hs := fun j => pkB_snoc1 (l.take i) j
        rw [hlen, hq, hr] at ho
        rw [hlen, hq, hr] at hs
        have hC : pkB (l.take i) q < 256 := pkB_lt _ _
        obtain ⟨C, hCC⟩ : ∃ C, pkB (l.take i) q = C := ⟨_, rfl⟩
        obtain ⟨Y, hY⟩ : ∃ Y, 2 ^ (7 - r) = Y := ⟨_, rfl⟩
        have hYb : Y ≤ 128 := by rw [← hY]; exact Nat.le_trans (Nat.pow_le_pow_right (by decide) (show 7 - r ≤ 7 by omega)) (by decide)
        have hdiv : 128 / 2 ^ r = Y := by
          rw [← hY, show (128 : Nat) = 2 ^ 7 by decide]
          exact Nat.pow_div (by omega) (by decide)
        obtain ⟨C2, hC2⟩ : ∃ C2, C + Y = C2 := ⟨_, rfl⟩
        rw [hCC, hY, hC2] at ho
        rw [hCC] at cq
        have k1 : (128 : Int) / 2 ^ r = (Y : Int) := by rw [← hdiv]; simp
        have k2 : IntKind.u64.wrap (r : Int) = (r : Int) := by rw [IntKind.wrap_u64]; omega
        have k3 : (0 : Int) ≤ (r : Int) ∧ (r : Int) ≤ 64 := by omega
        have k4 : IntKind.u8.wrap (Y : Int) = (Y : Int) := by rw [IntKind.wrap_u8]; omega
        have i2 : Int.tmod (i : Int) 8 = (r : Int) := by rw [Int.tmod_eq_emod_of_nonneg (by omega)]; omega
        have i1 : (i : Int) % 8 = (r : Int) := by omega
        have i3 : Int.tdiv (i : Int) 8 = (q : Int) := by rw [Int.tdiv_eq_ediv_of_nonneg (by omega)]; omega
        have i4 : (i : Int) / 8 = (q : Int) := by omega
        have q1 : (0 : Int) ≤ (q : Int) := by omega
        have q2 : (q : Int) < (n : Int) := by omega
        have HS : Hid (∀ j, pkB (l.take (i + 1)) j = if j = q then C2 else pkB (l.take i) j) := fun j => by
          rw [htk, hs j, hCC, hY, hC2]
        clear htk hlen hq hr hs hC hCC hY hYb hdiv hC2
        go_wp2
        go_roundw
        case rel => exact ⟨i + 1, by omega, by go_num, (HB.out.set (i := q) (y := C2)).congr (fun j _ => (HS.out j).symm), HE.out.setCell (p := ⟨w.heap.size, q, none⟩) (Nat.le_refl _) _⟩
        case measure => simp [intOf]; omega
    · obtain rfl : i = m := by omega
      have hb := HB.out
      rw [List.take_of_length_le (by rw [HM.out]; exact Nat.le_refl _)] at hb
      have HY := Lib.hid (hb.bys (by rw [HM.out]; exact HN.out) hn6)
      clear hb HB
      go_wp2
      go_ret
      exact ⟨_, _, rfl, HY.out, HE.out⟩
end Go.Proofs.YtehmgieocoppjaaDoor

/- kinlaw2.BitsReads: the walk. -/
namespace Go.Proofs.YtehmgieocoppjaaDoor
set_option linter.unusedVariables false
set_option linter.unusedSimpArgs false
open Go.RowKit Go.Extern.Stop Go.Stop Go.Extern

theorem xor_byte (x : Int) : ∃ y : Nat, y < 256 ∧ bits .xor .u8 x 255 = (y : Int) := by
  obtain ⟨z, hz⟩ : ∃ z, bits .xor .u8 x 255 = IntKind.u8.wrap z := ⟨_, rfl⟩
  rw [hz, IntKind.wrap_u8]
  exact ⟨(z % 256).toNat, by omega, by omega⟩
theorem rdP_le {bs : List Nat} {p : Nat} {n : Int} (h : p ≤ 8 * bs.length) : rdP bs p n ≤ 8 * bs.length := by
  unfold rdP
  split
  · rename_i h1
    unfold rdF at h1
    split at h1
    · split at h1
      · omega
      · cases h1
    · cases h1
  · exact h
theorem RErrIs.form {w : World} {f : Fall} {c : Int} {u : Value} (h : RErrIs w f c u) : ∃ a n cap, u = .slice a n cap := by
  cases f with
  | none => exact ⟨none, 0, 0, h.2⟩
  | some a => obtain ⟨x, y, e, -⟩ := h.2.2; exact ⟨_, _, _, e⟩
/-- bytes of the call's own that may be written -/
def CsAt (w : World) (B1 B2 : Nat) (a : Option Addr) (n : Nat) : Prop := 0 < n → ∃ g, a = some ⟨g, 0, none⟩ ∧ (B1 ≤ g ∧ g < B2) ∧ ∀ j, j < n → (∃ x : Nat, x < 256 ∧ w.cell? ⟨g, j, none⟩ = some (.int .u8 (x : Int))) ∧ w.frozen? ⟨g, j, none⟩ = false
theorem CsAt.ext {w w' : World} {B1 B2 : Nat} {a : Option Addr} {n : Nat} (h : CsAt w B1 B2 a n) (k : Ext w w') : CsAt w' B1 B2 a n := fun h0 => by
  obtain ⟨g, e, hg, hj⟩ := h h0
  refine ⟨g, e, hg, fun j h1 => ?_⟩
  obtain ⟨⟨x, hx, c⟩, f⟩ := hj j h1
  exact ⟨⟨x, hx, k.cell c⟩, (Below.frozen k (Ext.lt c)).trans f⟩
theorem CsAt.of {w : World} {base n cap : Nat} {a : Option Addr} {bs : List Nat} (h : w.ownsRow base 5 1 (.slice a n cap) n (byC bs)) (hb : ∀ x ∈ bs, x < 256) : CsAt w base w.heap.size a n := fun hn => by
  obtain ⟨hl, h' | ⟨g, cap', cur, e', hb', hg, h1, h2, hs, ht⟩⟩ := h
  · omega
  · simp only [Value.slice.injEq] at e'
    obtain ⟨rfl, -, rfl⟩ := e'
    rw [byC_length] at hl
    refine ⟨g, rfl, ⟨hb', (Array.getElem?_eq_some_iff.1 hg).1⟩, fun j hj => ⟨⟨bs.getD j 0, ?_, ?_⟩, by simp [World.frozen?, hg]⟩⟩
    · have : j < bs.length := by omega
      exact hb _ (by rw [List.getD, List.getElem?_eq_getElem this]; exact List.getElem_mem this)
    · have : (byC bs)[j]? = some (.int .u8 ((bs.getD j 0 : Nat) : Int)) := by
        unfold byC
        rw [List.getElem?_map, nget_of_lt (by omega)]
        rfl
      rw [← ht, List.getElem?_take] at this
      split at this
      · simp [World.cell?, hg]
        simpa using this
      · cases this
theorem CsAt.set {w : World} {B1 B2 g n i : Nat} {y : Nat} (h : CsAt w B1 B2 (some ⟨g, 0, none⟩) n) (hy : y < 256) : CsAt (w.setCell ⟨g, i, none⟩ (.int .u8 (y : Int))) B1 B2 (some ⟨g, 0, none⟩) n := fun h0 => by
  obtain ⟨g', e, hg, hj⟩ := h h0
  simp only [Option.some.injEq, Addr.mk.injEq, and_true] at e
  subst e
  refine ⟨g, rfl, hg, fun j h1 => ?_⟩
  obtain ⟨⟨x, hx, c⟩, f⟩ := hj j h1
  refine ⟨?_, by simpa using f⟩
  by_cases hij : i = j
  · subst hij
    exact ⟨y, hy, World.cell?_setCell_same _ _ _ c⟩
  · exact ⟨x, hx, (cell_off_ne _ hij).trans c⟩
theorem RqAt.new {w wi : World} {a : Option Addr} {cap : Nat} {bs : List Nat} (T : TypeId) (h : Bys w (.slice a bs.length cap) bs) (k : Ext w wi) : RqAt (wi.alloc (.cells #[.slice a bs.length cap, .int .i64 0] T)) wi.heap.size bs 0 w.heap.size := by
  refine ⟨a, cap, ⟨by simp, by simp, by simp⟩, (h.ext k).ext ((Ext.refl wi).alloc _), fun hn g off ha => ?_, k.size⟩
  subst ha
  exact Ext.lt (h.at (nget_of_lt hn))
end Go.Proofs.YtehmgieocoppjaaDoor
