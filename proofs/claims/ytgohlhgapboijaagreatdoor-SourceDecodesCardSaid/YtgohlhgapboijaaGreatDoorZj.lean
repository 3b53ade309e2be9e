/- Contracts of this seat: Su3, Su4. -/
import Derived.Test.YtgohlhgapboijaaGreatDoorZi
import Derived.Test.YtgohlhgapboijaaGreatDoorZf
import Derived.Test.YtgohlhgapboijaaGreatDoorZd
import Derived.Test.YtgohlhgapboijaaGreatDoorZg
/- source.writeFrame: a frame as bits, with the k that takes the fewest. -/
namespace Go.Proofs.YtgohlhgapboijaaGreatDoor
set_option linter.unusedVariables false
set_option linter.unusedSimpArgs false
open Go.RowKit Go.Extern.Stop Go.Stop Go.Extern

/-- how many bits a list takes with k -/
def szF (l : List Int) (k : Nat) : Int := (l.map fun v => szRi v (k : Int)).sum
theorem szF_snoc (l : List Int) (v : Int) (k : Nat) : szF (l ++ [v]) k = szF l k + szRi v (k : Int) := by simp [szF]
theorem riL_le (v k : Nat) (hk : k ≤ 15) : (riL v k).length ≤ 60 := by
  obtain ⟨q, hq⟩ : ∃ q, v / 2 ^ k = q := ⟨_, rfl⟩
  rw [riL_length, hq]
  split <;> omega
theorem szRi_bound (v k : Int) : 0 ≤ szRi v k ∧ szRi v k ≤ 100 := by
  unfold szRi
  split
  · rename_i h
    have := riL_le v.toNat k.toNat (by unfold riOk at h; omega)
    omega
  · omega
theorem szF_bound (l : List Int) (k : Nat) : 0 ≤ szF l k ∧ szF l k ≤ 100 * l.length := by
  induction l with
  | nil => simp [szF]
  | cons a t ih =>
    have h := szRi_bound a (k : Int)
    have e : szF (a :: t) k = szRi a (k : Int) + szF t k := by simp [szF]
    rw [e, List.length_cons]
    omega
/-- the best of the first j, and its bits -/
def lsK (l : List Int) : Nat → Nat × Int
  | 0 => (0, 0)
  | j + 1 => if j = 0 ∨ szF l j < (lsK l j).2 then (j, szF l j) else lsK l j
theorem lsK_le (l : List Int) (j : Nat) : (lsK l j).1 ≤ j - 1 ∧ 0 ≤ (lsK l j).2 ∧ (lsK l j).2 ≤ 100 * l.length := by
  induction j with
  | zero => simp [lsK]; omega
  | succ j ih =>
    have h := szF_bound l j
    simp only [lsK]
    split
    · exact ⟨by simp, h⟩
    · exact ⟨by omega, ih.2⟩
def bestK (l : List Int) : Nat := (lsK l 8).1
theorem bestK_le (l : List Int) : bestK l ≤ 7 := (lsK_le l 8).1
/-- a frame's bits: k, then the folds -/
def ricL (l : List Int) (k : Nat) : List Bool := l.flatMap fun v => riL v.toNat k
theorem ricL_snoc (l : List Int) (v : Int) (k : Nat) : ricL (l ++ [v]) k = ricL l k ++ riL v.toNat k := by simp [ricL]
def frB (l : List Int) : List Bool := bsOf (bestK l) 3 ++ ricL l (bestK l)
theorem ricL_le (l : List Int) (k : Nat) (hk : k ≤ 15) : (ricL l k).length ≤ 60 * l.length := by
  induction l with
  | nil => simp [ricL]
  | cons a t ih =>
    have e : ricL (a :: t) k = riL a.toNat k ++ ricL t k := by simp [ricL]
    have := riL_le a.toNat k hk
    rw [e, List.length_append, List.length_cons]
    omega
theorem ints_wkp {w w' : World} {b B base n : Nat} {v : Value} {xs : List Value} (h : w.ownsRow base 3 1 v n xs) (k : WKp b B w w') (hb : ∀ g, v.ownBlock = some g → g ≠ b) : w'.ownsRow base 3 1 v n xs := by
  obtain ⟨h1, h2⟩ := h
  refine ⟨h1, ?_⟩
  rcases h2 with h2 | ⟨g, cap, cur, hv, hg, hh, r⟩
  · exact .inl h2
  · refine .inr ⟨g, cap, cur, hv, hg, ?_, r⟩
    rw [k.2.2 g (Array.getElem?_eq_some_iff.1 hh).1 (hb g (by rw [hv]; rfl)) (.inr fun ⟨cs, fr, e⟩ => by rw [hh] at e; simp at e)]
    exact hh
def WfPost (w : World) (b B : Nat) (l : List Bool) (e : Ending) (w' : World) : Prop := e = .returned .nilIface ∧ WrAt w' b B l ∧ WKp b B w w'
set_option maxHeartbeats 8000000 in
set_option maxRecDepth 100000 in
theorem wframe_any (b B W H n : Nat) (l : List Bool) (zs : List Int) (a : Option Addr) (cap : Nat) (w : World) (hwr : WrAt w b B l) (hl : l.length ≤ 600000000) (h : Ints w (.slice a n cap) zs) (hb : Byt zs) (hW : 8 ≤ W ∧ W ≤ 32) (hH : 8 ≤ H ∧ H ≤ 32) (hn : n = W * H) :
    Calls Tryz.prog 20 #[.pointer (some ⟨b, 0, none⟩), .agg #[.int .i64 (W : Int), .int .i64 (H : Int), .slice a n cap]] w (WfPost w b B (l ++ frB (folds W zs n))) := by
  have hWH : W * H ≤ 32 * 32 := Nat.mul_le_mul hW.2 hH.2
  have hn1 : n ≤ 1024 := by omega
  have E1 := Lib.hid ((Ext.refl w).alloc (.cells #[.int .i64 (W : Int), .int .i64 (H : Int), .slice a n cap] 48))
  have UFO := Lib.hid (fun (W' : World) (x : Ext w W') => foldsOf_any W H n zs a cap W' (h.ext x) hb hW hH hn)
  have hlen := folds_len W zs n
  have hfb : ∀ p, 0 ≤ (folds W zs n).getD p 0 ∧ (folds W zs n).getD p 0 ≤ 510 := fun p => by
    by_cases hp : p < n
    · have e : (folds W zs n).getD p 0 = fldV W zs p := by simp [folds, List.getD, hp]
      rw [e]
      have h1 := hb p
      have h2 := gsV_bound (W := (W : Int)) hb (p % W) (p / W) (p / W * W)
      exact fold_bound (by omega)
    · rw [List.getD, List.getElem?_eq_none (by omega)]
      simp
  obtain ⟨F, hF⟩ : ∃ F, folds W zs n = F := ⟨_, rfl⟩
  rw [hF] at UFO hlen hfb ⊢
  have HWR := Lib.hid hwr
  have HFB := Lib.hid hfb
  have HLN := Lib.hid hlen
  have hbw : b < w.heap.size := by
    obtain ⟨v, -, -, h3, -⟩ := hwr
    omega
  clear hWH h hb hn hF hwr hfb
  go_enter Tryz.func20, Tryz.ntmps20
  go_wp2_with fail
  refine (UFO.out _ E1.out).mono ?_; rintro e w2 ⟨fv, rfl, x2, o2⟩
  have HX2 := Lib.hid (E1.out.trans x2)
  have HWR2 := Lib.hid (HWR.out.ext HX2.out)
  have HO2 : Hid (w2.ownsRow (w.heap.size + 1) 3 1 fv n (F.map (Value.int .i64))) := own_mono o2 (by simp)
  have HI2 : Hid (Ints w2 fv F) := Ints.of_owns o2 (by rw [HLN.out]; omega)
  obtain ⟨fa, fc, hfv⟩ := HI2.out.form
  rw [HLN.out] at hfv
  subst hfv
  clear x2 o2 UFO E1
  go_wp2_with fail
  have hS1024 : 100 * n ≤ 102400 := by omega
  go_loop [6, 7, 18] (fun bv lv kv => ∃ (j p : Nat) (s : Int), j ≤ 8 ∧ kv = .int .i64 (j : Int) ∧ bv = .int .i64 (p : Int) ∧ lv = .int .i64 s ∧ Hid (lsK F j = (p, s))) (fun _ _ kv => 8 - (intOf kv).toNat)
  case atStart => exact ⟨0, 0, 0, by omega, rfl, rfl, rfl, rfl⟩
  case round =>
    obtain ⟨j, p, s, hj, rfl, rfl, rfl, HK⟩ := hrel
    by_cases hj8 : j < 8
    · have t1 : (j : Int) < 8 := by omega
      have hsb := lsK_le F j
      rw [HK.out] at hsb
      have hs2 : s ≤ 102400 := by have := hsb.2.2; rw [HLN.out] at this; simp only at this; omega
      have hs1 : 0 ≤ s := hsb.2.1
      clear hsb
      go_wp2_with fail
      go_loop [9, 23] (fun sv iv => ∃ (i : Nat) (S : Int), i ≤ n ∧ iv = .int .i64 (i : Int) ∧ sv = .int .i64 S ∧ Hid (szF (F.take i) j = S)) (fun _ iv => n - (intOf iv).toNat)
      case atStart => exact ⟨0, 0, Nat.zero_le _, rfl, rfl, by show _ = _; simp [szF]⟩
      case round =>
        obtain ⟨i, S, hi, rfl, rfl, HZ⟩ := hrel
        have hzb := szF_bound (F.take i) j
        rw [HZ.out, List.length_take, HLN.out] at hzb
        have hS0 : 0 ≤ S ∧ S ≤ 102400 := by omega
        clear hzb
        by_cases hlt : i < n
        · obtain ⟨g, off, rfl⟩ := HI2.out.had (by omega)
          have q := HI2.out.at (iget_of_lt (j := i) (by rw [HLN.out]; exact hlt))
          have HSN : Hid (szF (F.take (i + 1)) j = S + szRi (F.getD i 0) (j : Int)) := by
            show _ = _
            rw [List.take_add_one, iget_of_lt (j := i) (by rw [HLN.out]; exact hlt)]
            show szF (F.take i ++ [F.getD i 0]) j = _
            rw [szF_snoc, HZ.out]
          have hvb := szRi_bound (F.getD i 0) (j : Int)
          obtain ⟨v, hv⟩ : ∃ v, F.getD i 0 = v := ⟨_, rfl⟩
          rw [hv] at q HSN hvb
          obtain ⟨T, hT⟩ : ∃ T, szRi v (j : Int) = T := ⟨_, rfl⟩
          rw [hT] at HSN hvb
          have HTT := Lib.hid hT
          have m1 : IntKind.i64.wrap (S + T) = S + T := by rw [IntKind.wrap_i64]; omega
          have t2 : (i : Int) < (n : Int) := by omega
          have t3 : (0 : Int) ≤ (i : Int) := by omega
          clear hv hT HZ
          go_wp2_with fail
          refine (szri_any v (j : Int) _).mono ?_; rintro e w3 ⟨rfl, rfl⟩
          rw [HTT.out]
          go_wp2_with fail
          exact ⟨⟨i + 1, S + T, by omega, by go_num, by go_num, HSN⟩, by simp [intOf]; omega⟩
        · obtain rfl : i = n := by omega
          have t2 : ¬ (i : Int) < (i : Int) := by omega
          have hz : szF F j = S := by have h := HZ.out; rw [List.take_of_length_le (by rw [HLN.out]; exact Nat.le_refl _)] at h; exact h
          have HKn : Hid (lsK F (j + 1) = if j = 0 ∨ S < s then (j, S) else (p, s)) := by show _ = _; simp only [lsK]; rw [hz, HK.out]
          clear hz HZ
          by_cases h0 : j = 0
          · have e0 : ((j : Int) == 0) = true := by simp; omega
            have HK2 : Hid (lsK F (j + 1) = (j, S)) := by show _ = _; rw [HKn.out, if_pos (.inl h0)]
            clear h0
            go_wp2_with fail
            exact ⟨⟨j + 1, j, S, by omega, by go_num, rfl, rfl, HK2⟩, by simp [intOf]; omega⟩
          · have e0 : ((j : Int) == 0) = false := by simp; omega
            by_cases hSs : S < s
            · have HK2 : Hid (lsK F (j + 1) = (j, S)) := by show _ = _; rw [HKn.out, if_pos (.inr hSs)]
              clear h0
              go_wp2_with fail
              exact ⟨⟨j + 1, j, S, by omega, by go_num, rfl, rfl, HK2⟩, by simp [intOf]; omega⟩
            · have HK2 : Hid (lsK F (j + 1) = (p, s)) := by show _ = _; rw [HKn.out, if_neg (by omega)]
              clear h0
              go_wp2_with fail
              exact ⟨⟨j + 1, p, s, by omega, by go_num, rfl, rfl, HK2⟩, by simp [intOf]; omega⟩
    · obtain rfl : j = 8 := by omega
      have hbk : bestK F = p := by unfold bestK; rw [HK.out]
      have hp7 : p ≤ 7 := by rw [← hbk]; exact bestK_le F
      have HBK := Lib.hid hbk
      clear hbk HK
      have UP := Lib.hid (wput_yes b B p 3 l w2 HWR2.out (by decide) (by omega) (by omega))
      go_wp2_with fail
      refine UP.out.mono ?_; rintro e w3 ⟨x3, rfl, hw3, hk3, he3⟩
      have hx3 : x3 = .nilIface := he3
      subst hx3
      have HW3 := Lib.hid hw3
      have HK3 : Hid (WKp b B w w3) := (WKp.of_ext HX2.out).trans hk3
      have HO3 := Lib.hid (ints_wkp HO2.out hk3 (fun g hg => by have := (HO2.out.lt g hg).1; omega))
      clear hw3 hk3 he3 UP
      go_wp2_with fail
      go_loopw [51] (fun iv wr => ∃ i : Nat, i ≤ n ∧ iv = .int .i64 (i : Int) ∧ Hid (WrAt wr b B (l ++ bsOf p 3 ++ ricL (F.take i) p)) ∧ Hid (WKp b B w wr) ∧ Hid (wr.ownsRow (w.heap.size + 1) 3 1 (.slice fa n fc) n (F.map (Value.int .i64)))) (fun iv _ => n - (intOf iv).toNat)
      case atStart => exact ⟨0, Nat.zero_le _, rfl, by show WrAt _ _ _ _; simpa [ricL] using HW3.out, HK3, HO3⟩
      case round =>
        obtain ⟨i, hi, rfl, HWi, HKi, HOi⟩ := hrel
        by_cases hlt : i < n
        · have hI := Ints.of_owns HOi.out (by rw [HLN.out]; omega)
          obtain ⟨g, off, rfl⟩ := hI.had (by omega)
          have q := hI.at (iget_of_lt (j := i) (by rw [HLN.out]; exact hlt))
          have hvb := HFB.out i
          have hRN : ricL (F.take (i + 1)) p = ricL (F.take i) p ++ riL (F.getD i 0).toNat p := by
            rw [List.take_add_one, iget_of_lt (j := i) (by rw [HLN.out]; exact hlt)]
            exact ricL_snoc _ _ _
          have hll := ricL_le (F.take i) p (by omega)
          rw [List.length_take, HLN.out] at hll
          obtain ⟨v, hv⟩ : ∃ v, F.getD i 0 = v := ⟨_, rfl⟩
          rw [hv] at q hRN hvb
          have HRN := Lib.hid hRN
          have UPR := Lib.hid (putri_any b B v (p : Int) (l ++ bsOf p 3 ++ ricL (F.take i) p) wr HWi.out (by rw [List.length_append, List.length_append, bsOf_length]; omega))
          have HF0 : Hid (crF v (p : Int) = none) := by show _ = _; unfold crF; rw [if_pos (by unfold riOk; omega)]
          have HL0 : Hid (crL (l ++ bsOf p 3 ++ ricL (F.take i) p) v (p : Int) = l ++ bsOf p 3 ++ ricL (F.take (i + 1)) p) := by
            show _ = _
            unfold crL
            rw [if_pos (by unfold riOk; omega), HRN.out, List.append_assoc (l ++ bsOf p 3)]
            rfl
          have t2 : (i : Int) < (n : Int) := by omega
          have t3 : (0 : Int) ≤ (i : Int) := by omega
          clear hv hRN hI hll
          go_wp2_with fail
          refine UPR.out.mono ?_; rintro e w5 ⟨x5, rfl, hw5, hk5, he5⟩
          rw [HF0.out] at he5
          rw [HL0.out] at hw5
          have hx5 : x5 = .nilIface := he5
          subst hx5
          have HW5 := Lib.hid hw5
          have HK5 := Lib.hid (HKi.out.trans hk5)
          have HO5 := Lib.hid (ints_wkp HOi.out hk5 (fun g hg => by have := (HOi.out.lt g hg).1; omega))
          clear hw5 hk5 he5 UPR
          go_wp2_with fail
          exact ⟨⟨i + 1, by omega, by go_num, HW5, HK5, HO5⟩, by simp [intOf]; omega⟩
        · obtain rfl : i = n := by omega
          have t2 : ¬ (i : Int) < (i : Int) := by omega
          have HR : Hid (WrAt wr b B (l ++ frB F)) := by
            have h := HWi.out
            rw [List.take_of_length_le (by rw [HLN.out]; exact Nat.le_refl _), List.append_assoc] at h
            show WrAt _ _ _ _
            unfold frB
            rw [HBK.out]
            exact h
          go_wp2_with fail
          go_ret
          exact ⟨rfl, HR.out, HKi.out⟩
end Go.Proofs.YtgohlhgapboijaaGreatDoor

/- source.check: what forbids to encode a video. -/
namespace Go.Proofs.YtgohlhgapboijaaGreatDoor
set_option linter.unusedVariables false
set_option linter.unusedSimpArgs false
open Go.RowKit Go.Extern.Stop Go.Stop Go.Extern

def fr0 : Fr := (0, 0, [])
/-- the frame at place q -/
def frAt (L : List Fr) (q : Nat) : Fr := L.getD q fr0
theorem frAt_get {L : List Fr} {q : Nat} (h : q < L.length) : L[q]? = some (frAt L q) := by simp [frAt, List.getD, h]
def mayAll (L : List Fr) : Prop := ∀ q, q < L.length → may (frAt L q).1 (frAt L q).2.1 (frAt L q).2.2
def alike (L : List Fr) : Prop := ∀ q, q < L.length → (frAt L q).1 = (frAt L 0).1 ∧ (frAt L q).2.1 = (frAt L 0).2.1
open Classical in
/-- what forbids to encode these frames -/
noncomputable def ckF (L : List Fr) : Fall :=
  if L.length = 0 then some ([], 2) else if ¬ mayAll L then some ([], 2) else if ¬ alike L then some ([], 14) else if 16 < L.length then some ([], 5) else none
/-- frames of a size that is handled -/
def Small (L : List Fr) : Prop := L.length ≤ 1000000 ∧ ∀ q, (frAt L q).2.2.length ≤ 1000000
theorem fms_frame {L : List Fr} {w : World} {g off n cap q : Nat} (h : Fms w (.slice (some ⟨g, off, none⟩) n cap) L) (hs : Small L) (hq : q < L.length) :
    ∃ ra rn rc, w.cell? ⟨g, off + q * 3, none⟩ = some (.int .i64 (frAt L q).1) ∧ w.cell? ⟨g, off + q * 3 + 1, none⟩ = some (.int .i64 (frAt L q).2.1) ∧ w.cell? ⟨g, off + q * 3 + 2, none⟩ = some (.slice ra rn rc) ∧ Ints w (.slice ra rn rc) (frAt L q).2.2 := by
  obtain ⟨ra, rn, rc, c0, c1, c2, c3⟩ := h.at (frAt_get hq)
  exact ⟨ra, rn, rc, c0, c1, c2, c3, Nat.le_trans (hs.2 q) (by decide)⟩
set_option maxHeartbeats 8000000 in
set_option maxRecDepth 100000 in
theorem scheck_any (L : List Fr) (v : Value) (w : World) (h : Fms w v L) (hs : Small L) :
    Calls Tryz.prog 18 #[v] w fun e w' => ∃ x, e = .returned x ∧ Ext w w' ∧ ErrIs w' (ckF L) x := by
  obtain ⟨a, cap, rfl⟩ := h.form
  obtain ⟨n, hn⟩ : ∃ n, L.length = n := ⟨_, rfl⟩
  have HN := Lib.hid hn
  rw [hn] at h ⊢
  have HF := Lib.hid h
  have HS := Lib.hid hs
  have hn6 : n ≤ 1000000 := by rw [← hn]; exact hs.1
  clear h hs hn
  by_cases h0 : n = 0
  · subst h0
    have HR : Hid (ckF L = some ([], 2)) := by show _ = _; unfold ckF; rw [if_pos HN.out]
    go_enter Tryz.func18, Tryz.ntmps18
    go_wp2
    go_ret
    exact ⟨_, rfl, Ext.refl w, by rw [HR.out]; exact ErrIs.code (by decide)⟩
  · have e0 : ((n : Int) == 0) = false := by simp; omega
    have hL0 : ¬ L.length = 0 := by rw [HN.out]; exact h0
    have HL0 := Lib.hid hL0
    obtain ⟨g, off, rfl⟩ := HF.out.had (by omega)
    clear hL0
    go_enter Tryz.func18, Tryz.ntmps18
    go_wp2_with fail
    go_loopw [13] (fun iv wr => ∃ i : Nat, i ≤ n ∧ iv = .int .i64 (i : Int) ∧ Hid (∀ q, q < i → may (frAt L q).1 (frAt L q).2.1 (frAt L q).2.2) ∧ Hid (Ext w wr)) (fun iv _ => n - (intOf iv).toNat)
    case atStart => exact ⟨0, Nat.zero_le _, rfl, fun q hq => absurd hq (Nat.not_lt_zero _), Ext.refl w⟩
    case round =>
      obtain ⟨i, hi, rfl, HM, HE⟩ := hrel
      by_cases hlt : i < n
      · obtain ⟨ra, rn, rc, c0, c1, c2, c3⟩ := fms_frame (HF.out.ext HE.out) HS.out (q := i) (by rw [HN.out]; exact hlt)
        have t1 : (i : Int) < (n : Int) := by omega
        have t2 : (0 : Int) ≤ (i : Int) := by omega
        have HC3 := Lib.hid c3
        obtain ⟨Wf, hWf⟩ : ∃ x, (frAt L i).1 = x := ⟨_, rfl⟩
        obtain ⟨Hf, hHf⟩ : ∃ x, (frAt L i).2.1 = x := ⟨_, rfl⟩
        obtain ⟨zf, hzf⟩ : ∃ x, (frAt L i).2.2 = x := ⟨_, rfl⟩
        rw [hWf] at c0
        rw [hHf] at c1
        rw [hzf] at c3
        have HQ : Hid ((frAt L i).1 = Wf ∧ (frAt L i).2.1 = Hf ∧ (frAt L i).2.2 = zf) := ⟨hWf, hHf, hzf⟩
        have UM := Lib.hid (fun (W' : World) (x : Ext wr W') => may_any Wf Hf zf ra rn rc W' (c3.ext x))
        clear c3 hWf hHf hzf
        go_wp2_with fail
        have HEa := Lib.hid ((Ext.refl wr).alloc (.cells #[.int .i64 Wf, .int .i64 Hf, .slice ra rn rc] 48))
        refine (UM.out _ HEa.out).mono ?_; rintro e w2 ⟨rfl, x2⟩
        have HE2 := Lib.hid (HE.out.trans (HEa.out.trans x2))
        clear x2 HEa UM
        by_cases hm : may Wf Hf zf
        · rw [decide_eq_true hm]
          have HM2 : Hid (∀ q, q < i + 1 → may (frAt L q).1 (frAt L q).2.1 (frAt L q).2.2) := fun q hq => by
            by_cases e : q = i
            · subst e
              rw [HQ.out.1, HQ.out.2.1, HQ.out.2.2]
              exact hm
            · exact HM.out q (by omega)
          clear hm
          go_wp2_with fail
          exact ⟨⟨i + 1, by omega, by go_num, HM2, HE2⟩, by simp [intOf]; omega⟩
        · rw [decide_eq_false hm]
          have HR : Hid (ckF L = some ([], 2)) := by
            show _ = _
            unfold ckF
            rw [if_neg HL0.out, if_pos]
            intro hall
            have := hall i (by rw [HN.out]; exact hlt)
            rw [HQ.out.1, HQ.out.2.1, HQ.out.2.2] at this
            exact hm this
          clear hm
          go_wp2
          go_ret
          exact ⟨_, rfl, HE2.out, by rw [HR.out]; exact ErrIs.code (by decide)⟩
      · obtain rfl : i = n := by omega
        have HA : Hid (mayAll L) := by show mayAll L; intro q hq; exact HM.out q (by rw [HN.out] at hq; exact hq)
        have t1 : ¬ (i : Int) < (i : Int) := by omega
        obtain ⟨ra0, rn0, rc0, d0, d1, -, -⟩ := fms_frame HF.out HS.out (q := 0) (by rw [HN.out]; omega)
        rw [show off + 0 * 3 = off by omega] at d0 d1
        have D0 := Lib.hid d0
        have D1 := Lib.hid d1
        clear d0 d1 HM
        go_wp2_with fail
        go_loopw [24] (fun jv wr => ∃ j : Nat, j ≤ i ∧ jv = .int .i64 (j : Int) ∧ Hid (∀ q, q < j → (frAt L q).1 = (frAt L 0).1 ∧ (frAt L q).2.1 = (frAt L 0).2.1) ∧ Hid (Ext w wr)) (fun jv _ => i - (intOf jv).toNat)
        case atStart => exact ⟨0, Nat.zero_le _, rfl, fun q hq => absurd hq (Nat.not_lt_zero _), HE⟩
        case round =>
          obtain ⟨j, hj, rfl, HM, HE'⟩ := hrel
          by_cases hlt : j < i
          · obtain ⟨ra, rn, rc, c0, c1, c2, -⟩ := fms_frame (HF.out.ext HE'.out) HS.out (q := j) (by rw [HN.out]; exact hlt)
            have d0 := HE'.out.cell D0.out
            have d1 := HE'.out.cell D1.out
            have t3 : (j : Int) < (i : Int) := by omega
            have t2 : (0 : Int) ≤ (j : Int) := by omega
            have t4 : (0 : Int) < (i : Int) := by omega
            obtain ⟨Wf, hWf⟩ : ∃ x, (frAt L j).1 = x := ⟨_, rfl⟩
            obtain ⟨Hf, hHf⟩ : ∃ x, (frAt L j).2.1 = x := ⟨_, rfl⟩
            obtain ⟨W0, hW0⟩ : ∃ x, (frAt L 0).1 = x := ⟨_, rfl⟩
            obtain ⟨H0, hH0⟩ : ∃ x, (frAt L 0).2.1 = x := ⟨_, rfl⟩
            rw [hWf] at c0
            rw [hHf] at c1
            rw [hW0] at d0
            rw [hH0] at d1
            have HQ : Hid (((frAt L j).1 = Wf ∧ (frAt L j).2.1 = Hf) ∧ (frAt L 0).1 = W0 ∧ (frAt L 0).2.1 = H0) := ⟨⟨hWf, hHf⟩, hW0, hH0⟩
            have c0' := ((Ext.refl wr).alloc (.cells #[.int .i64 Wf, .int .i64 Hf, .slice ra rn rc] 48)).cell d0
            have c1' := ((Ext.refl wr).alloc (.cells #[.int .i64 Wf, .int .i64 Hf, .slice ra rn rc] 48)).cell d1
            have HE2 := Lib.hid (HE'.out.alloc (.cells #[.int .i64 Wf, .int .i64 Hf, .slice ra rn rc] 48))
            clear hWf hHf hW0 hH0
            by_cases hwe : Wf = W0
            · have e1 : (Wf != W0) = false := by simp [hwe]
              by_cases hhe : Hf = H0
              · have e2 : (Hf != H0) = false := by simp [hhe]
                have HM2 : Hid (∀ q, q < j + 1 → (frAt L q).1 = (frAt L 0).1 ∧ (frAt L q).2.1 = (frAt L 0).2.1) := fun q hq => by
                  by_cases e : q = j
                  · subst e
                    rw [HQ.out.1.1, HQ.out.1.2, HQ.out.2.1, HQ.out.2.2]
                    exact ⟨hwe, hhe⟩
                  · exact HM.out q (by omega)
                clear hwe hhe
                go_wp2_with fail
                go_quiet (fail)
                have HE3 := Lib.hid (HE2.out.drewN nq)
                go_wp2_with fail
                exact ⟨⟨j + 1, by omega, by go_num, HM2, HE3⟩, by simp [intOf]; omega⟩
              · have e2 : (Hf != H0) = true := by simp [hhe]
                have HR : Hid (ckF L = some ([], 14)) := by
                  show _ = _
                  unfold ckF
                  rw [if_neg HL0.out, if_neg (fun hh => hh HA.out), if_pos]
                  intro hall
                  have := (hall j (by rw [HN.out]; exact hlt)).2
                  rw [HQ.out.1.2, HQ.out.2.2] at this
                  exact hhe this
                clear hwe hhe
                go_wp2_with fail
                go_quiet (fail)
                have HE3 := Lib.hid (HE2.out.drewN nq)
                go_wp2
                go_ret
                exact ⟨_, rfl, HE3.out, by rw [HR.out]; exact ErrIs.code (by decide)⟩
            · have e1 : (Wf != W0) = true := by simp [hwe]
              have HR : Hid (ckF L = some ([], 14)) := by
                show _ = _
                unfold ckF
                rw [if_neg HL0.out, if_neg (fun hh => hh HA.out), if_pos]
                intro hall
                have := (hall j (by rw [HN.out]; exact hlt)).1
                rw [HQ.out.1.1, HQ.out.2.1] at this
                exact hwe this
              clear hwe
              go_wp2_with fail
              go_quiet (fail)
              have HE3 := Lib.hid (HE2.out.drewN nq)
              go_wp2
              go_ret
              exact ⟨_, rfl, HE3.out, by rw [HR.out]; exact ErrIs.code (by decide)⟩
          · obtain rfl : j = i := by omega
            have t1' : ¬ (j : Int) < (j : Int) := by omega
            have HAL : Hid (alike L) := by show alike L; intro q hq; exact HM.out q (by rw [HN.out] at hq; exact hq)
            by_cases h16 : 16 < j
            · have t3 : (16 : Int) < (j : Int) := by omega
              have HR : Hid (ckF L = some ([], 5)) := by
                show _ = _
                unfold ckF
                rw [if_neg HL0.out, if_neg (fun hh => hh HA.out), if_neg (fun hh => hh HAL.out), if_pos (by rw [HN.out]; exact h16)]
              go_wp2
              go_ret
              exact ⟨_, rfl, HE'.out, by rw [HR.out]; exact ErrIs.code (by decide)⟩
            · have t3 : ¬ (16 : Int) < (j : Int) := by omega
              have HR : Hid (ckF L = none) := by
                show _ = _
                unfold ckF
                rw [if_neg HL0.out, if_neg (fun hh => hh HA.out), if_neg (fun hh => hh HAL.out), if_neg (by rw [HN.out]; exact h16)]
              go_wp2
              go_ret
              exact ⟨_, rfl, HE'.out, by rw [HR.out]; rfl⟩
end Go.Proofs.YtgohlhgapboijaaGreatDoor
