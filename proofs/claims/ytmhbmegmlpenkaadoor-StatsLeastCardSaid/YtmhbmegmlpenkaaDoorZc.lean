/- Contracts of this seat: Grp2, Of, WtM, Wt1, Blk2, R7, R7s, St1, St2, Pk, Wt2, St3, St4. -/
import Derived.Test.YtmhbmegmlpenkaaDoorZb
import Derived.Deep.RegionHeld3
/- scene.Groups: its contract over this seat's translation. -/
namespace Go.Proofs.YtmhbmegmlpenkaaDoor
set_option linter.unusedVariables false
set_option linter.unusedSimpArgs false
open Go.RowKit Go.Extern.Stop Go.Stop Go.Extern

def frD (L : List Fr) (k : Nat) : Fr := L.getD k (0, 0, [])
def ansAt (L : List Fr) (k : Nat) : Fall := frAns (frD L (k - 1)).1 (frD L (k - 1)).2.1 (frD L (k - 1)).2.2 (frD L k).1 (frD L k).2.1 (frD L k).2.2
def unlAt (L : List Fr) (k : Nat) : Int := unlV (frD L (k - 1)).1 (frD L (k - 1)).2.1 (frD L (k - 1)).2.2 (frD L k).1 (frD L k).2.1 (frD L k).2.2
/-- the groups behind k frames: all but the last, the last -/
def grpS (L : List Fr) (cut gop : Int) : Nat → List (Int × Int) × Int × Int
  | 0 => ([], 0, 0)
  | k + 1 => if cut < unlAt L k ∨ (grpS L cut gop k).2.2 = gop then ((grpS L cut gop k).1 ++ [((grpS L cut gop k).2.1, (grpS L cut gop k).2.2)], (k : Int), 1) else ((grpS L cut gop k).1, (grpS L cut gop k).2.1, (grpS L cut gop k).2.2 + 1)
def grpL (L : List Fr) (cut gop : Int) (k : Nat) : List (Int × Int) := (grpS L cut gop k).1 ++ [((grpS L cut gop k).2.1, (grpS L cut gop k).2.2)]
theorem grpS_bound (L : List Fr) (cut gop : Int) (k : Nat) : (grpS L cut gop k).1.length ≤ k ∧ 0 ≤ (grpS L cut gop k).2.2 ∧ (grpS L cut gop k).2.2 ≤ k := by
  induction k with
  | zero => simp [grpS]
  | succ k ih =>
    unfold grpS
    split
    · simp only [List.length_append, List.length_cons, List.length_nil]; omega
    · simp only []; push_cast; omega
def scn : ByteArray := { data := #[115, 99, 101, 110, 101] }
def grpF (L : List Fr) : Nat → Fall
  | 0 => none
  | k + 1 => match grpF L k with
    | some f => some f
    | none => match ansAt L k with
      | none => none
      | some (p, c) => some ((scn, (k : Int)) :: p, c)
theorem grpF_some {L : List Fr} {k : Nat} {f : List (ByteArray × Int) × Int} (h : grpF L k = some f) (d : Nat) : grpF L (k + d) = some f := by
  induction d with
  | zero => exact h
  | succ d ih => show grpF L (k + d + 1) = _; unfold grpF; rw [ih]
theorem grpF_at {L : List Fr} {k n : Nat} {p : List (ByteArray × Int)} {c : Int} (h : grpF L k = none) (ha : ansAt L k = some (p, c)) (hk : k < n) : grpF L n = some ((scn, (k : Int)) :: p, c) := by
  have h1 : grpF L (k + 1) = some ((scn, (k : Int)) :: p, c) := by unfold grpF; rw [h, ha]
  have := grpF_some h1 (n - (k + 1))
  rwa [show k + 1 + (n - (k + 1)) = n by omega] at this
theorem grpF_next {L : List Fr} {k : Nat} (h : grpF L k = none) (ha : ansAt L k = none) : grpF L (k + 1) = none := by unfold grpF; rw [h, ha]
def grpAns (L : List Fr) (cut gop : Int) : Fall := if cut < 0 ∨ 16320 < cut ∨ gop < 1 ∨ 16 < gop then range else if L.length = 0 ∨ 16 < L.length then form else grpF L L.length
def grpV (L : List Fr) (cut gop : Int) : List (Int × Int) := match grpAns L cut gop with
  | none => grpL L cut gop L.length
  | some _ => []
/-- groups and an error -/
def GPost (w : World) (G : List (Int × Int)) (f : Fall) (e : Ending) (w' : World) : Prop := ∃ u x, e = .returned (.tuple #[u, x]) ∧ Ext w w' ∧ Row w' u G.length (gcells G) ∧ ErrIs w' f x
theorem own_addr2 {w : World} {base n : Nat} {e : TypeId} {s : Nat} {v : Value} {xs : List Value} (h : w.ownsRow base e s v n xs) (hn : 0 < n) : ∃ g cap, v = .slice (some ⟨g, 0, none⟩) n cap := by
  obtain ⟨hl, h'⟩ := id h
  rcases h' with ⟨h1, h2⟩ | ⟨g, cap, cur, e, -⟩
  · omega
  · exact ⟨g, cap, e⟩
theorem infoGrp : (Tryd.prog.info? 69).map (fun i => (i.zero, i.size, i.bytes)) = some (some (.agg #[.int .i64 0, .int .i64 0]), 2, 16) := by kernel_rfl
set_option maxRecDepth 20000 in
theorem groups_bad (L : List Fr) (cut gop : Int) (a : Option Addr) (n cap : Nat) (w : World) (h : Fms w (.slice a n cap) L) (hb : (cut < 0 ∨ 16320 < cut ∨ gop < 1 ∨ 16 < gop) ∨ n = 0 ∨ 16 < n) :
    Calls Tryd.prog 36 #[.slice a n cap, .int .i64 cut, .int .i64 gop] w (GPost w (grpV L cut gop) (grpAns L cut gop)) := by
  have hn := h.len
  by_cases hc : cut < 0 ∨ 16320 < cut ∨ gop < 1 ∨ 16 < gop
  · have hr : grpAns L cut gop = range := by unfold grpAns; rw [if_pos hc]
    have HR := Lib.hid hr
    have HV : Hid (grpV L cut gop = []) := by show _ = _; unfold grpV; rw [hr]; rfl
    clear hb hr hn h
    by_cases c1 : cut < 0
    · clear hc
      go_enter Tryd.func36, Tryd.ntmps36
      go_wp2
      go_ret2
      exact ⟨_, _, rfl, Ext.refl w, by rw [HV.out]; exact Row.nil w, by rw [HR.out]; exact ErrIs.code (by decide)⟩
    · by_cases c2 : 16320 < cut
      · clear hc
        go_enter Tryd.func36, Tryd.ntmps36
        go_wp2
        go_ret2
        exact ⟨_, _, rfl, Ext.refl w, by rw [HV.out]; exact Row.nil w, by rw [HR.out]; exact ErrIs.code (by decide)⟩
      · by_cases c3 : gop < 1
        · clear hc
          go_enter Tryd.func36, Tryd.ntmps36
          go_wp2
          go_ret2
          exact ⟨_, _, rfl, Ext.refl w, by rw [HV.out]; exact Row.nil w, by rw [HR.out]; exact ErrIs.code (by decide)⟩
        · have c4 : 16 < gop := by omega
          clear hc
          go_enter Tryd.func36, Tryd.ntmps36
          go_wp2
          go_ret2
          exact ⟨_, _, rfl, Ext.refl w, by rw [HV.out]; exact Row.nil w, by rw [HR.out]; exact ErrIs.code (by decide)⟩
  · have hb2 : n = 0 ∨ 16 < n := by
      rcases hb with hb | hb
      · exact absurd hb hc
      · exact hb
    have hr : grpAns L cut gop = form := by unfold grpAns; rw [if_neg hc, if_pos (by omega)]
    have HR := Lib.hid hr
    have HV : Hid (grpV L cut gop = []) := by show _ = _; unfold grpV; rw [hr]; rfl
    have c1 : ¬ cut < 0 := by omega
    have c2 : ¬ 16320 < cut := by omega
    have c3 : ¬ gop < 1 := by omega
    have c4 : ¬ 16 < gop := by omega
    clear hb hr hn h hc
    by_cases n0 : n = 0
    · subst n0
      clear hb2
      go_enter Tryd.func36, Tryd.ntmps36
      go_wp2
      go_ret2
      exact ⟨_, _, rfl, Ext.refl w, by rw [HV.out]; exact Row.nil w, by rw [HR.out]; exact ErrIs.code (by decide)⟩
    · have n1 : (16 : Int) < (n : Int) := by omega
      have n2 : ((n : Int) == 0) = false := by simp; omega
      clear hb2 n0
      go_enter Tryd.func36, Tryd.ntmps36
      go_wp2
      go_ret2
      exact ⟨_, _, rfl, Ext.refl w, by rw [HV.out]; exact Row.nil w, by rw [HR.out]; exact ErrIs.code (by decide)⟩
set_option maxRecDepth 20000 in
set_option maxHeartbeats 8000000 in
theorem groups_good (L : List Fr) (cut gop : Int) (a : Option Addr) (n cap : Nat) (w : World) (h : Fms w (.slice a n cap) L) (hsm : Hid (∀ (q : Nat) (f : Fr), L[q]? = some f → f.2.2.length ≤ 1000000)) (hc : 0 ≤ cut ∧ cut ≤ 16320) (hgp : 1 ≤ gop ∧ gop ≤ 16) (hn : 1 ≤ n ∧ n ≤ 16) :
    Calls Tryd.prog 36 #[.slice a n cap, .int .i64 cut, .int .i64 gop] w (GPost w (grpV L cut gop) (grpAns L cut gop)) := by
  obtain ⟨i0, hi, hz0, hz1, hz2⟩ := info_parts infoGrp
  have hnl := h.len
  have HA : Hid (grpAns L cut gop = grpF L n) := by show _ = _; unfold grpAns; rw [if_neg (by omega), if_neg (by omega), hnl]
  have HN := Lib.hid hnl
  obtain ⟨g0, off, rfl⟩ := h.had (by omega)
  have HF := Lib.hid h
  obtain ⟨hc1, hc2⟩ := hc
  obtain ⟨hg1, hg2⟩ := hgp
  obtain ⟨hn1, hn2⟩ := hn
  have n2 : ((n : Int) == 0) = false := by simp; omega
  have hown := World.ownsRow_lit (e := 69) (base := w.heap.size) (size := 2) w #[.int .i64 0, .int .i64 0] 1 (Nat.le_refl _) (by unfold maxLen; omega) rfl
  have r1 := mx2
  clear h hnl
  go_enter Tryd.func36, Tryd.ntmps36
  go_wp2
  go_loopw [8, 42] (fun gv iv wr => ∃ (k g cap q : Nat) (I : List (Int × Int)) (F C : Int), k ≤ n ∧ iv = .int .i64 k ∧ gv = .slice (some ⟨g, 0, none⟩) (q + 1) cap ∧ Hid (wr.ownsRow w.heap.size 69 2 (.slice (some ⟨g, 0, none⟩) (q + 1) cap) (q + 1) (gcells (I ++ [(F, C)]))) ∧ Hid (grpS L cut gop k = (I, F, C) ∧ I.length = q ∧ grpF L k = none) ∧ q ≤ k ∧ 0 ≤ C ∧ C ≤ k ∧ Ext w wr) (fun _ iv _ => n - (intOf iv).toNat)
  case atStart => exact ⟨0, w.heap.size, 1, 0, [], 0, 0, Nat.zero_le _, rfl, rfl, hown, ⟨rfl, rfl, rfl⟩, Nat.le_refl _, by omega, by omega, (Ext.refl w).alloc _⟩
  case round =>
    clear hown
    obtain ⟨k, g, gcap, gq, I, F, C, hk, rfl, rfl, HO, HK, b1, b2, b3, hE⟩ := hrel
    by_cases hlt : k < n
    · obtain ⟨f, hf⟩ : ∃ f, L[k]? = some f := ⟨_, List.getElem?_eq_getElem (by rw [← HN.out]; exact hlt)⟩
      obtain ⟨p, hp⟩ : ∃ p, L[k - 1]? = some p := ⟨_, List.getElem?_eq_getElem (by rw [← HN.out]; omega)⟩
      have hfd : frD L k = f := by unfold frD; rw [List.getD, hf]; rfl
      have hpd : frD L (k - 1) = p := by unfold frD; rw [List.getD, hp]; rfl
      have HFL : Hid (f.2.2.length ≤ 1000000) := hsm.out _ _ hf
      have HPL : Hid (p.2.2.length ≤ 1000000) := hsm.out _ _ hp
      have HAN : Hid (ansAt L k = frAns p.1 p.2.1 p.2.2 f.1 f.2.1 f.2.2) := by show _ = _; unfold ansAt; rw [hfd, hpd]
      have HUN : Hid (unlAt L k = unlV p.1 p.2.1 p.2.2 f.1 f.2.1 f.2.2) := by show _ = _; unfold unlAt; rw [hfd, hpd]
      have FI := (HF.out.at hf).ext hE
      have PI := Lib.hid ((HF.out.at hp).ext hE)
      obtain ⟨fa, fn, fc, c0, c1, c2, c3⟩ := FI
      have HC3 : Hid (Ints wr (.slice fa fn fc) f.2.2) := ⟨c3, Nat.le_trans HFL.out (by decide)⟩
      clear hf hp hfd hpd c3
      obtain ⟨P, hP⟩ : ∃ P, P = k - 1 := ⟨_, rfl⟩
      have t1 : max ((k : Int) - 1) 0 = (P : Int) := by omega
      have t2 : IntKind.i64.wrap ((k : Int) - 1) = (k : Int) - 1 := by rw [IntKind.wrap_i64]; omega
      have t3 : (0 : Int) ≤ (P : Int) ∧ (P : Int) < (n : Int) := by omega
      rw [← hP] at PI
      clear hP
      have AB : Ext wr (wr.alloc (.cells #[.int .i64 f.1, .int .i64 f.2.1, .slice fa fn fc] 24)) := (Ext.refl wr).alloc _
      have FB := FrBox.new wr f.1 f.2.1 (.slice fa fn fc)
      have PB := Lib.hid (PI.out.ext AB)
      have HC4 := Lib.hid (HC3.out.ext AB)
      have HO4 := Lib.hid (own_ext HO.out AB)
      have hE4 : Ext w (wr.alloc (.cells #[.int .i64 f.1, .int .i64 f.2.1, .slice fa fn fc] 24)) := hE.trans AB
      clear PI HC3 HO hE AB
      go_wp2_with fail
      revert FB PB HC4 HO4 hE4
      generalize wr.alloc (.cells #[.int .i64 f.1, .int .i64 f.2.1, .slice fa fn fc] 24) = wb
      intro FB PB HC4 HO4 hE4
      obtain ⟨p0, p1, p2⟩ := FB
      obtain ⟨pa, pn, pc, q0, q1, q2, q3⟩ := PB.out
      have HP4 : Hid (Ints wb (.slice pa pn pc) p.2.2) := ⟨q3, Nat.le_trans HPL.out (by decide)⟩
      have U := Lib.hid (fun w h k => unlike_any p.1 p.2.1 f.1 f.2.1 p.2.2 f.2.2 pa fa pn fn pc fc w h k)
      clear q3 c0 c1 c2
      go_region_held3 (fun w' => w'.cell? ⟨wr.heap.size, 0, none⟩ = some (.int .i64 f.1) ∧ w'.cell? ⟨wr.heap.size, 1, none⟩ = some (.int .i64 f.2.1) ∧ w'.cell? ⟨wr.heap.size, 2, none⟩ = some (.slice fa fn fc) ∧ w'.cell? ⟨g0, off + P * 3, none⟩ = some (.int .i64 p.1) ∧ w'.cell? ⟨g0, off + P * 3 + 1, none⟩ = some (.int .i64 p.2.1) ∧ w'.cell? ⟨g0, off + P * 3 + 2, none⟩ = some (.slice pa pn pc) ∧ Ext wb w')
        (first | assumption | (exact ⟨p0, p1, p2, q0, q1, q2, Ext.refl _⟩) | (exact ⟨p0, p1, p2, q0, q1, q2, (Ext.refl _).drew⟩) | (go_split_ands; exact ⟨hx.cell (by assumption), hx.cell (by assumption), hx.cell (by assumption), hx.cell (by assumption), hx.cell (by assumption), hx.cell (by assumption), Ext.trans (by assumption) hx⟩))
        ((go_at_call 40; obtain ⟨_, _, _, _, _, _, hE1⟩ : _ ∧ _ ∧ _ ∧ _ ∧ _ ∧ _ ∧ Ext wb _ := (by assumption); refine (U.out _ (HP4.out.ext hE1) (HC4.out.ext hE1)).mono ?_; rintro e w' ⟨x5, rfl, hx, hex⟩))
      obtain ⟨_, _, _, _, _, _, hE1⟩ : _ ∧ _ ∧ _ ∧ _ ∧ _ ∧ _ ∧ Ext wb _ := by assumption
      have HO5 := Lib.hid (own_ext HO4.out hE1)
      have E5 := hE4.trans hE1
      have hB5 := E5.size
      clear p0 p1 p2 q0 q1 q2 HO4 hE4 hE1 HC4 HP4 PB U
      rw [← HAN.out] at hex
      cases ha : ansAt L k with
      | some e0 =>
        obtain ⟨pe, ce⟩ := e0
        rw [ha] at hex
        obtain ⟨t9, y9, rfl⟩ := hex.ne
        have hpe : pe = [] := by have := HAN.out; rw [ha] at this; exact frAns_path this.symm
        subst hpe
        have HR : Hid (grpAns L cut gop = some ((scn, (k : Int)) :: [], ce)) := HA.out.trans (grpF_at HK.out.2.2 ha hlt)
        have HV : Hid (grpV L cut gop = []) := by show _ = _; unfold grpV; rw [HR.out]
        have HX := Lib.hid hex
        clear ha hex
        go_wp2_with fail
        refine (in_err scn (k : Int) [] ce _ _ HX.out.1).mono ?_; rintro e w6 ⟨u6, rfl, hx6, he6⟩
        go_wp2
        go_ret2
        exact ⟨_, _, rfl, E5.trans hx6, by rw [HV.out]; exact Row.nil _, by rw [HR.out]; exact ⟨he6, HX.out.2.1, by simp⟩⟩
      | none =>
        rw [ha] at hex
        obtain rfl : x5 = .nilIface := hex
        have HFN := Lib.hid (grpF_next HK.out.2.2 ha)
        have hci := gcells_at I F C
        rw [HK.out.2.1] at hci
        obtain ⟨cF, zF⟩ := own2_cell HO5.out hci.1
        obtain ⟨cC, zC⟩ := own2_cell HO5.out hci.2
        clear ha hci
        revert HUN
        generalize unlV p.1 p.2.1 p.2.2 f.1 f.2.1 f.2.2 = u0
        intro HUN
        have i1 : IntKind.i64.wrap ((gq : Int) + 1 - 1) = (gq : Int) := by rw [IntKind.wrap_i64]; omega
        have i2 : IntKind.i64.wrap (gq : Int) = (gq : Int) := by rw [IntKind.wrap_i64]; omega
        have i3 : (0 : Int) ≤ (gq : Int) ∧ (gq : Int) < (gq : Int) + 1 := by omega
        by_cases hA : cut < u0
        · have HST : Hid (grpS L cut gop (k + 1) = (I ++ [(F, C)], (k : Int), 1)) := by show _ = _; unfold grpS; rw [HK.out.1, if_pos (Or.inl (by rw [HUN.out]; exact hA))]
          have A6 : Ext w' (w'.alloc (.cells #[.int .i64 F, .int .i64 C] 69)) := (Ext.refl w').alloc _
          have A7 : Ext (w'.alloc (.cells #[.int .i64 F, .int .i64 C] 69)) ((w'.alloc (.cells #[.int .i64 F, .int .i64 C] 69)).alloc (.cells #[.int .i64 (k : Int), .int .i64 0] 69)) := (Ext.refl _).alloc _
          have HLR : Hid (Row ((w'.alloc (.cells #[.int .i64 F, .int .i64 C] 69)).alloc (.cells #[.int .i64 (k : Int), .int .i64 0] 69)) (.slice (some ⟨w'.heap.size + 1, 0, none⟩) 1 1) 1 [.int .i64 (k : Int), .int .i64 0]) := by
            have := Row.of_owns (World.ownsRow_lit (e := 69) (base := (w'.alloc (.cells #[.int .i64 F, .int .i64 C] 69)).heap.size) (size := 2) (w'.alloc (.cells #[.int .i64 F, .int .i64 C] 69)) #[.int .i64 (k : Int), .int .i64 0] 1 (Nat.le_refl _) (by unfold maxLen; omega) rfl)
            show Row _ _ _ _
            simpa using this
          have HO7 := Lib.hid (own_ext (own_ext HO5.out A6) A7)
          have E7 := (E5.trans A6).trans A7
          have hB7 := E7.size
          have hL1 : (I ++ [(F, C)]).length = gq + 1 := by rw [List.length_append, HK.out.2.1]; rfl
          obtain ⟨r, hr⟩ : ∃ r, r = gq + 1 := ⟨_, rfl⟩
          have HRQ := Lib.hid hr
          have i5 : IntKind.i64.wrap ((r : Int) + 1 - 1) = (r : Int) := by rw [IntKind.wrap_i64]; omega
          have i6 : IntKind.i64.wrap (r : Int) = (r : Int) := by rw [IntKind.wrap_i64]; omega
          have i7 : (0 : Int) ≤ (r : Int) ∧ (r : Int) < (r : Int) + 1 := by omega
          have hrk : r ≤ k + 1 := by omega
          have HL1 : Hid ((I ++ [(F, C)]).length = r) := by show _ = _; rw [hr]; exact hL1
          clear hr hL1 A6 A7 E5 hB5
          go_wp2_with (at_builtin; refine append_row rfl _ _ 60 rfl 69 i0 _ 2 16 Tryd.underlying60 hi hz0 hz1 hz2 rfl (by decide) _ (gq + 1) _ rfl HO7.out (.slice (some ⟨w'.heap.size + 1, 0, none⟩) 1 1) 1 [.int .i64 (k : Int), .int .i64 0] rfl HLR.out rfl (by intro x hx; simp only [List.mem_cons, List.not_mem_nil, or_false] at hx; rcases hx with rfl | rfl <;> rfl) hB7 (by unfold maxLen; omega) (by omega) ?_; intro v' w8 h1 h2 h3; have h4 : w8.ownsRow w.heap.size 69 2 v' (r + 1) (gcells (I ++ [(F, C)] ++ [((k : Int), 0)])) := (by rw [HRQ.out, gcells_snoc]; exact h1); clear h1; obtain ⟨g', cap', rfl⟩ := own_addr2 h4 (by omega); have hci := (gcells_at (I ++ [(F, C)]) (k : Int) 0).2; rw [HL1.out] at hci; obtain ⟨cN, zN⟩ := own2_cell h4 hci; have HOW := Lib.hid (own2_set (j := r * 2 + 1) (.int .i64 1) h4); have E8 : Ext w w8 := E7.of_below h2 (Nat.le_refl _); clear h2 h3 h4 hci)
          go_roundw
          case rel =>
            refine ⟨k + 1, g', cap', r, I ++ [(F, C)], (k : Int), 1, by omega, by go_num, rfl, ?_, ⟨HST.out, HL1.out, HFN.out⟩, by omega, by omega, by omega, E8.setCell (p := ⟨g', r * 2 + 1, none⟩) ?_ _⟩
            · have e := HOW.out
              rw [← HL1.out, gcells_set, HL1.out] at e
              exact e
            · exact (HOW.out.lt g' rfl).1
          case measure => simp [intOf]; omega
        · by_cases hB : C = gop
          · have HST : Hid (grpS L cut gop (k + 1) = (I ++ [(F, C)], (k : Int), 1)) := by show _ = _; unfold grpS; rw [HK.out.1, if_pos (Or.inr hB)]
            have hB' : (C == gop) = true := by simpa using hB
            clear hB
            have A6 : Ext w' (w'.alloc (.cells #[.int .i64 F, .int .i64 C] 69)) := (Ext.refl w').alloc _
            have A7 : Ext (w'.alloc (.cells #[.int .i64 F, .int .i64 C] 69)) ((w'.alloc (.cells #[.int .i64 F, .int .i64 C] 69)).alloc (.cells #[.int .i64 (k : Int), .int .i64 0] 69)) := (Ext.refl _).alloc _
            have HLR : Hid (Row ((w'.alloc (.cells #[.int .i64 F, .int .i64 C] 69)).alloc (.cells #[.int .i64 (k : Int), .int .i64 0] 69)) (.slice (some ⟨w'.heap.size + 1, 0, none⟩) 1 1) 1 [.int .i64 (k : Int), .int .i64 0]) := by
              have := Row.of_owns (World.ownsRow_lit (e := 69) (base := (w'.alloc (.cells #[.int .i64 F, .int .i64 C] 69)).heap.size) (size := 2) (w'.alloc (.cells #[.int .i64 F, .int .i64 C] 69)) #[.int .i64 (k : Int), .int .i64 0] 1 (Nat.le_refl _) (by unfold maxLen; omega) rfl)
              show Row _ _ _ _
              simpa using this
            have HO7 := Lib.hid (own_ext (own_ext HO5.out A6) A7)
            have E7 := (E5.trans A6).trans A7
            have hB7 := E7.size
            have hL1 : (I ++ [(F, C)]).length = gq + 1 := by rw [List.length_append, HK.out.2.1]; rfl
            obtain ⟨r, hr⟩ : ∃ r, r = gq + 1 := ⟨_, rfl⟩
            have HRQ := Lib.hid hr
            have i5 : IntKind.i64.wrap ((r : Int) + 1 - 1) = (r : Int) := by rw [IntKind.wrap_i64]; omega
            have i6 : IntKind.i64.wrap (r : Int) = (r : Int) := by rw [IntKind.wrap_i64]; omega
            have i7 : (0 : Int) ≤ (r : Int) ∧ (r : Int) < (r : Int) + 1 := by omega
            have hrk : r ≤ k + 1 := by omega
            have HL1 : Hid ((I ++ [(F, C)]).length = r) := by show _ = _; rw [hr]; exact hL1
            clear hr hL1 A6 A7 E5 hB5
            go_wp2_with (at_builtin; refine append_row rfl _ _ 60 rfl 69 i0 _ 2 16 Tryd.underlying60 hi hz0 hz1 hz2 rfl (by decide) _ (gq + 1) _ rfl HO7.out (.slice (some ⟨w'.heap.size + 1, 0, none⟩) 1 1) 1 [.int .i64 (k : Int), .int .i64 0] rfl HLR.out rfl (by intro x hx; simp only [List.mem_cons, List.not_mem_nil, or_false] at hx; rcases hx with rfl | rfl <;> rfl) hB7 (by unfold maxLen; omega) (by omega) ?_; intro v' w8 h1 h2 h3; have h4 : w8.ownsRow w.heap.size 69 2 v' (r + 1) (gcells (I ++ [(F, C)] ++ [((k : Int), 0)])) := (by rw [HRQ.out, gcells_snoc]; exact h1); clear h1; obtain ⟨g', cap', rfl⟩ := own_addr2 h4 (by omega); have hci := (gcells_at (I ++ [(F, C)]) (k : Int) 0).2; rw [HL1.out] at hci; obtain ⟨cN, zN⟩ := own2_cell h4 hci; have HOW := Lib.hid (own2_set (j := r * 2 + 1) (.int .i64 1) h4); have E8 : Ext w w8 := E7.of_below h2 (Nat.le_refl _); clear h2 h3 h4 hci)
            go_roundw
            case rel =>
              refine ⟨k + 1, g', cap', r, I ++ [(F, C)], (k : Int), 1, by omega, by go_num, rfl, ?_, ⟨HST.out, HL1.out, HFN.out⟩, by omega, by omega, by omega, E8.setCell (p := ⟨g', r * 2 + 1, none⟩) ?_ _⟩
              · have e := HOW.out
                rw [← HL1.out, gcells_set, HL1.out] at e
                exact e
              · exact (HOW.out.lt g' rfl).1
            case measure => simp [intOf]; omega
          · have HST : Hid (grpS L cut gop (k + 1) = (I, F, C + 1)) := by
              show _ = _
              unfold grpS
              rw [HK.out.1, if_neg (by rw [HUN.out]; exact fun e => e.elim hA hB)]
            have hB' : (C == gop) = false := by simpa using hB
            have i4 : IntKind.i64.wrap (C + 1) = C + 1 := by rw [IntKind.wrap_i64]; omega
            have A6 : Ext w' (w'.alloc (.cells #[.int .i64 F, .int .i64 C] 69)) := (Ext.refl w').alloc _
            have cC6 := A6.cell cC
            have zC6 := (Below.frozen A6 (Ext.lt cC)).trans zC
            have HOW := Lib.hid (own2_set (j := gq * 2 + 1) (.int .i64 (C + 1)) (own_ext HO5.out A6))
            have E6 := E5.trans A6
            have HL1 := Lib.hid HK.out.2.1
            clear A6
            go_wp2
            go_roundw
            case rel =>
              refine ⟨k + 1, g, gcap, gq, I, F, C + 1, by omega, by go_num, rfl, ?_, ⟨HST.out, HK.out.2.1, HFN.out⟩, by omega, by omega, by omega, E6.setCell (p := ⟨g, gq * 2 + 1, none⟩) ?_ _⟩
              · have e := HOW.out
                rw [← HL1.out, gcells_set, HL1.out] at e
                exact e
              · exact (HO5.out.lt g rfl).1
            case measure => simp [intOf]; omega
    · have hkn : ¬ (k : Int) < (n : Int) := by omega
      have hke : k = n := by omega
      have HK2 := HK
      rw [hke] at HK2
      have HR : Hid (grpAns L cut gop = none) := HA.out.trans HK2.out.2.2
      have HV : Hid (grpV L cut gop = I ++ [(F, C)]) := by
        show _ = _
        unfold grpV
        rw [HR.out]
        show grpL L cut gop L.length = _
        unfold grpL
        rw [← HN.out, HK2.out.1]
      have HRow : Hid (Row wr (.slice (some ⟨g, 0, none⟩) (gq + 1) gcap) (I ++ [(F, C)]).length (gcells (I ++ [(F, C)]))) := by
        have := Row.of_owns HO.out
        rw [List.length_append, HK.out.2.1]
        exact this
      clear hlt hke HK2
      go_wp2
      go_ret2
      exact ⟨_, _, rfl, hE, by rw [HV.out]; exact HRow.out, by rw [HR.out]; rfl⟩
theorem groups_any (L : List Fr) (cut gop : Int) (v : Value) (w : World) (h : Fms w v L) (hsm : Hid (∀ (q : Nat) (f : Fr), L[q]? = some f → f.2.2.length ≤ 1000000)) :
    Calls Tryd.prog 36 #[v, .int .i64 cut, .int .i64 gop] w (GPost w (grpV L cut gop) (grpAns L cut gop)) := by
  obtain ⟨a, cap, rfl⟩ := h.form
  by_cases hb : (cut < 0 ∨ 16320 < cut ∨ gop < 1 ∨ 16 < gop) ∨ L.length = 0 ∨ 16 < L.length
  · exact groups_bad L cut gop a _ cap w h hb
  · exact groups_good L cut gop a _ cap w h hsm (by omega) (by omega) (by omega)
end Go.Proofs.YtmhbmegmlpenkaaDoor

/- scene.Of: its contract over this seat's translation. -/
namespace Go.Proofs.YtmhbmegmlpenkaaDoor
set_option linter.unusedVariables false
set_option linter.unusedSimpArgs false
open Go.RowKit Go.Extern.Stop Go.Stop Go.Extern

def inG (x : Int) (p : Int × Int) : Prop := 0 < p.2 ∧ p.1 ≤ x ∧ x - p.1 < p.2
instance (x : Int) (p : Int × Int) : Decidable (inG x p) := by unfold inG; exact inferInstance
/-- the first group with a frame in it, from the k-th on -/
def ofV (x : Int) : List (Int × Int) → Int → Int
  | [], _ => -1
  | p :: G, k => if inG x p then k else ofV x G (k + 1)
theorem gcells_get (G : List (Int × Int)) (q : Nat) (p : Int × Int) (h : G[q]? = some p) : (gcells G)[q * 2]? = some (.int .i64 p.1) ∧ (gcells G)[q * 2 + 1]? = some (.int .i64 p.2) := by
  induction G generalizing q with
  | nil => simp at h
  | cons a G ih =>
    have e : gcells (a :: G) = .int .i64 a.1 :: .int .i64 a.2 :: gcells G := rfl
    rw [e]
    cases q with
    | zero => simp at h; subst h; exact ⟨rfl, rfl⟩
    | succ q =>
      have h' : G[q]? = some p := by simpa using h
      obtain ⟨h1, h2⟩ := ih q h'
      rw [show (q + 1) * 2 = q * 2 + 1 + 1 by omega, show q * 2 + 1 + 1 + 1 = (q * 2 + 1) + 1 + 1 by omega]
      exact ⟨by simpa using h1, by simpa using h2⟩
def small (p : Int × Int) : Prop := -9223372036854775808 ≤ p.1 ∧ p.1 ≤ 9223372036854775807 ∧ -9223372036854775808 ≤ p.2 ∧ p.2 ≤ 9223372036854775807
theorem ofV_step (x : Int) (G : List (Int × Int)) (q : Nat) (p : Int × Int) (h : G[q]? = some p) : ofV x (G.drop q) q = if inG x p then (q : Int) else ofV x (G.drop (q + 1)) ((q : Int) + 1) := by
  obtain ⟨hq, e⟩ := List.getElem?_eq_some_iff.1 h
  rw [List.drop_eq_getElem_cons hq, e]
  rfl
set_option maxRecDepth 20000 in
set_option maxHeartbeats 4000000 in
theorem of_any (G : List (Int × Int)) (x : Int) (v : Value) (w : World) (h : Row w v G.length (gcells G)) (hl : G.length ≤ 1000000) (hx : -9223372036854775808 ≤ x ∧ x ≤ 9223372036854775807) (hG : Hid (∀ (q : Nat) (p : Int × Int), G[q]? = some p → small p)) :
    Calls Tryd.prog 41 #[v, .int .i64 x] w fun e w' => e = .returned (.int .i64 (ofV x G 0)) ∧ Ext w w' := by
  obtain ⟨a, cap, rfl⟩ := h.form
  obtain ⟨n, hn⟩ : ∃ n, n = G.length := ⟨_, rfl⟩
  have HN := Lib.hid hn
  rw [← hn] at h hl ⊢
  have HROW := Lib.hid h
  obtain ⟨hx1, hx2⟩ := hx
  clear hn h
  go_enter Tryd.func41, Tryd.ntmps41
  go_wp2
  go_loopw [9] (fun iv wr => ∃ k : Nat, k ≤ n ∧ iv = .int .i64 k ∧ Hid (ofV x G 0 = ofV x (G.drop k) k) ∧ Ext w wr) (fun iv _ => n - (intOf iv).toNat)
  case atStart => exact ⟨0, Nat.zero_le _, rfl, rfl, Ext.refl _⟩
  case round =>
    obtain ⟨k, hk, rfl, HO, hE⟩ := hrel
    by_cases hlt : k < n
    · obtain ⟨p, hp⟩ : ∃ p, G[k]? = some p := ⟨_, List.getElem?_eq_getElem (by rw [← HN.out]; exact hlt)⟩
      obtain ⟨a', cap', e', l1, l2, l3, l4⟩ := HROW.out.ext hE
      simp only [Value.slice.injEq, true_and] at e'
      obtain ⟨rfl, rfl⟩ := e'
      obtain ⟨g, off, rfl⟩ := l3 (by omega)
      obtain ⟨d1, d2⟩ := gcells_get G k p hp
      have c1 := l4 g off rfl _ _ d1
      have c2 := l4 g off rfl _ _ d2
      have HST := Lib.hid (ofV_step x G k p hp)
      obtain ⟨s1, s2, s3, s4⟩ := hG.out _ _ hp
      obtain ⟨F, C⟩ := p
      change wr.cell? ⟨g, off + k * 2, none⟩ = some (.int .i64 F) at c1
      change wr.cell? ⟨g, off + (k * 2 + 1), none⟩ = some (.int .i64 C) at c2
      change -9223372036854775808 ≤ F at s1
      change F ≤ 9223372036854775807 at s2
      change -9223372036854775808 ≤ C at s3
      change C ≤ 9223372036854775807 at s4
      rw [← Nat.add_assoc] at c2
      have EB : Ext w (wr.alloc (.cells #[.int .i64 F, .int .i64 C] 69)) := hE.alloc _
      clear d1 d2 hp l1 l2 l3 l4
      by_cases h1 : 0 < C
      · by_cases h2 : F ≤ x
        · have u1 : IntKind.u64.wrap C = C := by rw [IntKind.wrap_u64]; omega
          have u2 : IntKind.u64.wrap (IntKind.u64.wrap x - IntKind.u64.wrap F) = x - F := by rw [IntKind.wrap_u64, IntKind.wrap_u64, IntKind.wrap_u64]; omega
          by_cases h3 : x - F < C
          · have HR : Hid (ofV x G 0 = (k : Int)) := by show _ = _; rw [HO.out, HST.out, if_pos ⟨h1, h2, h3⟩]
            clear hE
            go_wp2
            go_ret
            exact ⟨by rw [HR.out]; rfl, EB⟩
          · have HR : Hid (ofV x G 0 = ofV x (G.drop (k + 1)) ((k + 1 : Nat) : Int)) := by show _ = _; rw [HO.out, HST.out, if_neg (fun e => h3 e.2.2)]; rfl
            clear hE
            go_wp2
            go_roundw
            case rel => exact ⟨k + 1, by omega, by go_num, HR, EB⟩
            case measure => simp [intOf]; omega
        · have HR : Hid (ofV x G 0 = ofV x (G.drop (k + 1)) ((k + 1 : Nat) : Int)) := by show _ = _; rw [HO.out, HST.out, if_neg (fun e => h2 e.2.1)]; rfl
          clear hE
          go_wp2
          go_roundw
          case rel => exact ⟨k + 1, by omega, by go_num, HR, EB⟩
          case measure => simp [intOf]; omega
      · have HR : Hid (ofV x G 0 = ofV x (G.drop (k + 1)) ((k + 1 : Nat) : Int)) := by show _ = _; rw [HO.out, HST.out, if_neg (fun e => h1 e.1)]; rfl
        clear hE
        go_wp2
        go_roundw
        case rel => exact ⟨k + 1, by omega, by go_num, HR, EB⟩
        case measure => simp [intOf]; omega
    · have hkn : ¬ (k : Int) < (n : Int) := by omega
      have HR : Hid (ofV x G 0 = -1) := by show _ = _; rw [HO.out, List.drop_eq_nil_of_le (by have := HN.out; omega)]; rfl
      clear hlt
      go_wp2
      go_ret
      exact ⟨by rw [HR.out]; rfl, hE⟩
end Go.Proofs.YtmhbmegmlpenkaaDoor

/- Weights of frames in groups: plain. -/
namespace Go.Proofs.YtmhbmegmlpenkaaDoor
set_option linter.unusedVariables false
set_option linter.unusedSimpArgs false

/-- do groups lie one behind the other, from a place on, up to the end -/
def covS (N : Int) : List (Int × Int) → Int → Bool
  | [], a => decide (a = N)
  | p :: G, a => if p.1 ≠ a ∨ p.2 < 1 ∨ N - a < p.2 then false else covS N G (a + p.2)
def covB (N : Nat) (G : List (Int × Int)) : Bool := decide (1 ≤ N ∧ N ≤ 16) && covS N G 0
theorem covS_at {N a : Int} {G : List (Int × Int)} {q : Nat} {p : Int × Int} (h : G[q]? = some p) : covS N (G.drop q) a = if p.1 ≠ a ∨ p.2 < 1 ∨ N - a < p.2 then false else covS N (G.drop (q + 1)) (a + p.2) := by
  rw [drop_of_get h]
  rfl
theorem covS_end {N a : Int} {G : List (Int × Int)} {q : Nat} (h : G.length ≤ q) : covS N (G.drop q) a = decide (a = N) := by
  rw [List.drop_eq_nil_of_le h]
  rfl
theorem covS_ge {N : Int} : ∀ {G : List (Int × Int)} {a : Int}, covS N G a = true → ∀ p ∈ G, a ≤ p.1
  | [], _, _, p, hp => by cases hp
  | p :: G, a, h, r, hr => by
    unfold covS at h
    split at h
    · cases h
    · rename_i hn
      rcases List.mem_cons.1 hr with rfl | hr
      · omega
      · have := covS_ge h r hr
        omega
/-- does a frame begin a group -/
def begB (G : List (Int × Int)) (k : Nat) : Bool := G.any fun p => p.1 == (k : Int)
theorem begB_at {N a : Int} {G : List (Int × Int)} {q k : Nat} {p : Int × Int} (h : G[q]? = some p) (hc : covS N (G.drop q) a = true) (hb : ∀ r ∈ G.take q, r.1 < a) (hk : a ≤ k) (hk2 : (k : Int) < a + p.2) : begB G k = ((k : Int) == p.1) ∧ p.1 = a := by
  rw [covS_at h] at hc
  split at hc
  · cases hc
  · rename_i hn
    have hg := covS_ge hc
    have ha : p.1 = a := by omega
    refine ⟨?_, ha⟩
    unfold begB
    rw [← List.take_append_drop q G, drop_of_get h, List.any_append, List.any_cons]
    have h1 : ((G.take q).any fun p => p.1 == (k : Int)) = false := by
      rw [Bool.eq_false_iff]
      intro ht
      obtain ⟨r, hr, e⟩ := List.any_eq_true.1 ht
      have := hb r hr
      simp at e
      omega
    have h2 : ((G.drop (q + 1)).any fun p => p.1 == (k : Int)) = false := by
      rw [Bool.eq_false_iff]
      intro ht
      obtain ⟨r, hr, e⟩ := List.any_eq_true.1 ht
      have := hg r hr
      simp at e
      omega
    rw [h1, h2, Bool.false_or, Bool.or_false, Bool.eq_iff_iff]
    simp
    omega
theorem take_lt {N a : Int} {G : List (Int × Int)} {q : Nat} {p : Int × Int} (h : G[q]? = some p) (hc : covS N (G.drop q) a = true) (hb : ∀ r ∈ G.take q, r.1 < a) : (∀ r ∈ G.take (q + 1), r.1 < a + p.2) ∧ covS N (G.drop (q + 1)) (a + p.2) = true ∧ p.1 = a ∧ 1 ≤ p.2 ∧ p.2 ≤ N - a := by
  rw [covS_at h] at hc
  split at hc
  · cases hc
  · rename_i hn
    refine ⟨fun r hr => ?_, hc, by omega, by omega, by omega⟩
    rw [take_of_get h] at hr
    rcases List.mem_append.1 hr with hr | hr
    · have := hb r hr; omega
    · obtain rfl := List.mem_singleton.1 hr; omega
theorem inV_in (W H : Int) (zs : List Int) : 0 ≤ inV W H zs ∧ inV W H zs ≤ 261120 := by
  unfold inV
  split
  · rename_i h
    obtain ⟨m, p, -, -, h1, h2, h3, h4, e1, e2⟩ := may_sides h
    rw [e1, e2]
    have := blkF_bound (innV_in h) m (m * p)
    have : m * p ≤ 16 := Nat.mul_le_mul h2 h4
    omega
  · omega
theorem ouV_in (W H : Int) (xs : List Int) (W' H' : Int) (ys : List Int) : 0 ≤ ouV W H xs W' H' ys ∧ ouV W H xs W' H' ys ≤ 261120 := by
  unfold ouV
  split
  · rename_i h
    obtain ⟨hm, -⟩ := frAns_none h
    obtain ⟨m, p, -, -, h1, h2, h3, h4, e1, e2⟩ := may_sides hm
    rw [e1, e2]
    have := blkF_bound (v := outV W H xs W' H' ys) (outV_in hm) m (m * p)
    have : m * p ≤ 16 := Nat.mul_le_mul h2 h4
    omega
  · omega
/-- what a frame weighs, and what may be said of it -/
def wtV (L : List Fr) (b : Bool) (k : Nat) : Int := if b then 64 + 2 * inV (frD L k).1 (frD L k).2.1 (frD L k).2.2 else 64 + ouV (frD L k).1 (frD L k).2.1 (frD L k).2.2 (frD L (k - 1)).1 (frD L (k - 1)).2.1 (frD L (k - 1)).2.2
def wtE (L : List Fr) (b : Bool) (k : Nat) : Fall := if b then inAns (frD L k).1 (frD L k).2.1 (frD L k).2.2 else frAns (frD L k).1 (frD L k).2.1 (frD L k).2.2 (frD L (k - 1)).1 (frD L (k - 1)).2.1 (frD L (k - 1)).2.2
theorem wtV_in (L : List Fr) (b : Bool) (k : Nat) : 64 ≤ wtV L b k ∧ wtV L b k ≤ 600000 := by
  unfold wtV
  split
  · have := inV_in (frD L k).1 (frD L k).2.1 (frD L k).2.2; omega
  · have := ouV_in (frD L k).1 (frD L k).2.1 (frD L k).2.2 (frD L (k - 1)).1 (frD L (k - 1)).2.1 (frD L (k - 1)).2.2; omega
theorem wtE_path {L : List Fr} {b : Bool} {k : Nat} {f : List (ByteArray × Int) × Int} (h : wtE L b k = some f) : f.1 = [] ∧ f.2 ≠ 0 := by
  unfold wtE at h
  split at h
  · unfold inAns form at h
    split at h
    · cases h
    · cases h; exact ⟨rfl, by decide⟩
  · unfold frAns form fit at h
    split at h
    · split at h
      · cases h
      · cases h; exact ⟨rfl, by decide⟩
    · cases h; exact ⟨rfl, by decide⟩
def stt : ByteArray := { data := #[115, 116, 97, 116, 115] }
/-- the first frame of which something is to be said -/
def wtF (L : List Fr) (b : Nat → Bool) : Nat → Fall
  | 0 => none
  | k + 1 => match wtF L b k with
    | some f => some f
    | none => match wtE L (b k) k with
      | none => none
      | some (p, c) => some ((stt, (k : Int)) :: p, c)
theorem wtF_some {L : List Fr} {b : Nat → Bool} {k : Nat} {f : List (ByteArray × Int) × Int} (h : wtF L b k = some f) (d : Nat) : wtF L b (k + d) = some f := by
  induction d with
  | zero => exact h
  | succ d ih => show wtF L b (k + d + 1) = _; unfold wtF; rw [ih]
theorem wtF_at {L : List Fr} {b : Nat → Bool} {k n : Nat} {p : List (ByteArray × Int)} {c : Int} (h : wtF L b k = none) (ha : wtE L (b k) k = some (p, c)) (hk : k < n) : wtF L b n = some ((stt, (k : Int)) :: p, c) := by
  have h1 : wtF L b (k + 1) = some ((stt, (k : Int)) :: p, c) := by unfold wtF; rw [h, ha]
  have := wtF_some h1 (n - (k + 1))
  rwa [show k + 1 + (n - (k + 1)) = n by omega] at this
theorem wtF_next {L : List Fr} {b : Nat → Bool} {k : Nat} (h : wtF L b k = none) (ha : wtE L (b k) k = none) : wtF L b (k + 1) = none := by unfold wtF; rw [h, ha]
theorem wtF_none {L : List Fr} {b : Nat → Bool} {n : Nat} (h : wtF L b n = none) : ∀ k, k < n → wtE L (b k) k = none := fun k hk => by
  have h0 : wtF L b k = none := by
    cases hf : wtF L b k with
    | none => rfl
    | some f => have := wtF_some hf (n - k); rw [show k + (n - k) = n by omega, h] at this; cases this
  cases ha : wtE L (b k) k with
  | none => rfl
  | some f => obtain ⟨p, c⟩ := f; rw [wtF_at h0 ha hk] at h; cases h
def wtAns (L : List Fr) (G : List (Int × Int)) : Fall := if covB L.length G = true then wtF L (begB G) L.length else range
def wtL (L : List Fr) (G : List (Int × Int)) : List Int := match wtAns L G with
  | none => rowL L.length fun k => wtV L (begB G k) k
  | some _ => []
end Go.Proofs.YtmhbmegmlpenkaaDoor

/- stats.covers, kinref16.fits: contracts over this seat's translation. -/
namespace Go.Proofs.YtmhbmegmlpenkaaDoor
set_option linter.unusedVariables false
set_option linter.unusedSimpArgs false
open Go.RowKit Go.Extern.Stop Go.Stop Go.Extern

theorem covB_of {N : Nat} {G : List (Int × Int)} {b : Bool} (h : covS N G 0 = b) (hN : 1 ≤ N ∧ N ≤ 16) : covB N G = b := by
  unfold covB
  rw [h, decide_eq_true hN, Bool.true_and]
set_option maxRecDepth 20000 in
set_option maxHeartbeats 4000000 in
theorem covers_any (G : List (Int × Int)) (N : Nat) (v : Value) (w : World) (h : Row w v G.length (gcells G)) (hl : G.length ≤ 1000000) (hN : N ≤ 1000000) :
    Calls Tryd.prog 84 #[v, .int .i64 (N : Int)] w fun e w' => e = .returned (.bool (covB N G)) ∧ Ext w w' := by
  obtain ⟨a, cap, rfl⟩ := h.form
  obtain ⟨gn, hgn⟩ : ∃ gn, gn = G.length := ⟨_, rfl⟩
  have HN := Lib.hid hgn
  have HR := Lib.hid h
  rw [← hgn] at HR hl ⊢
  clear h hgn
  by_cases h1 : 1 ≤ N ∧ N ≤ 16
  · obtain ⟨h1, h2⟩ := h1
    have h3 : ¬ (N : Int) < 1 := by omega
    have h4 : ¬ (16 : Int) < (N : Int) := by omega
    go_enter Tryd.func84, Tryd.ntmps84
    go_wp2
    go_loopw [5, 16] (fun xv qv wr => ∃ (q : Nat) (x : Int), q ≤ gn ∧ qv = .int .i64 q ∧ xv = .int .i64 x ∧ Hid (covS N G 0 = covS N (G.drop q) x) ∧ 0 ≤ x ∧ x ≤ N ∧ Ext w wr) (fun _ qv _ => gn - (intOf qv).toNat)
    case atStart => exact ⟨0, 0, Nat.zero_le _, rfl, rfl, rfl, by omega, by omega, Ext.refl _⟩
    case round =>
      obtain ⟨q, x, hq, rfl, rfl, HK, hx0, hx1, hE⟩ := hrel
      by_cases hlt : q < gn
      · obtain ⟨p, hp⟩ : ∃ p, G[q]? = some p := ⟨_, List.getElem?_eq_getElem (by rw [← HN.out]; exact hlt)⟩
        obtain ⟨F, C⟩ := p
        obtain ⟨g, off, cp, e, -, -⟩ := (show Row w (.slice a gn cap) gn (gcells G) from HR.out).some (by omega)
        simp only [Value.slice.injEq] at e
        obtain ⟨rfl, -, rfl⟩ := e
        have gc := gcells_get G q (F, C) hp
        have c0 := hE.cell (HR.out.at gc.1)
        have c1 := hE.cell (HR.out.at gc.2)
        change wr.cell? ⟨g, off + q * 2 + 1, none⟩ = some (.int .i64 C) at c1
        have HS := Lib.hid (covS_at (N := N) (a := x) hp)
        have t4 : (0 : Int) ≤ (q : Int) ∧ (q : Int) < (gn : Int) := by omega
        clear gc hp
        have i1 : IntKind.i64.wrap ((N : Int) - x) = (N : Int) - x := by rw [IntKind.wrap_i64]; omega
        by_cases hF : F = x
        · subst hF
          by_cases hC : C < 1
          · have HB : Hid (covB N G = false) := covB_of (by rw [HK.out, HS.out, if_pos (Or.inr (Or.inl hC))]) ⟨h1, h2⟩
            go_wp2
            go_ret
            exact ⟨by rw [HB.out]; rfl, (by repeat (first | exact Ext.refl _ | assumption | refine Ext.alloc ?_ _ | refine Ext.drew ?_ | refine Ext.drewN ?_ _ | refine Ext.setCell ?_ (by first | exact Nat.le_refl _ | (simp; done) | omega) _ | refine Ext.trans ?_ (by assumption)))⟩
          · by_cases hD : (N : Int) - F < C
            · have HB : Hid (covB N G = false) := covB_of (by rw [HK.out, HS.out, if_pos (Or.inr (Or.inr hD))]) ⟨h1, h2⟩
              go_wp2
              go_ret
              exact ⟨by rw [HB.out]; rfl, (by repeat (first | exact Ext.refl _ | assumption | refine Ext.alloc ?_ _ | refine Ext.drew ?_ | refine Ext.drewN ?_ _ | refine Ext.setCell ?_ (by first | exact Nat.le_refl _ | (simp; done) | omega) _ | refine Ext.trans ?_ (by assumption)))⟩
            · have HK2 : Hid (covS N G 0 = covS N (G.drop (q + 1)) (F + C)) := by
                show _ = _
                rw [HK.out, HS.out, if_neg (fun h => by
                  rcases h with h | h | h
                  · exact h rfl
                  · exact hC h
                  · exact hD h)]
              have i2 : IntKind.i64.wrap (F + C) = F + C := by rw [IntKind.wrap_i64]; omega
              have EX : Ext w (wr.alloc (.cells #[.int .i64 F, .int .i64 C] 69)) := hE.alloc _
              go_wp2
              go_roundw
              case rel => exact ⟨q + 1, F + C, by omega, by go_num, rfl, HK2, by omega, by omega, EX⟩
              case measure => simp [intOf]; omega
        · have HB : Hid (covB N G = false) := covB_of (by rw [HK.out, HS.out, if_pos (Or.inl hF)]) ⟨h1, h2⟩
          have hF' : (F != x) = true := by simpa using hF
          clear hF
          go_wp2
          go_ret
          exact ⟨by rw [HB.out]; rfl, (by repeat (first | exact Ext.refl _ | assumption | refine Ext.alloc ?_ _ | refine Ext.drew ?_ | refine Ext.drewN ?_ _ | refine Ext.setCell ?_ (by first | exact Nat.le_refl _ | (simp; done) | omega) _ | refine Ext.trans ?_ (by assumption)))⟩
      · have HB : Hid (covB N G = decide (x = (N : Int))) := covB_of (by rw [HK.out, covS_end (by rw [← HN.out]; omega)]) ⟨h1, h2⟩
        have hx' : (x == (N : Int)) = decide (x = (N : Int)) := by rw [Bool.eq_iff_iff]; simp
        have HX := Lib.hid hx'
        clear hx'
        go_wp2
        go_ret
        exact ⟨by rw [HB.out, ← HX.out]; rfl, hE⟩
  · have HB : Hid (covB N G = false) := by show _ = _; unfold covB; rw [decide_eq_false h1]; rfl
    by_cases h3 : N < 1
    · have h3' : (N : Int) < 1 := by omega
      clear h1
      have hE := Ext.refl w
      go_enter Tryd.func84, Tryd.ntmps84
      go_wp2
      go_ret
      exact ⟨by rw [HB.out]; rfl, (by repeat (first | exact Ext.refl _ | assumption | refine Ext.alloc ?_ _ | refine Ext.drew ?_ | refine Ext.drewN ?_ _ | refine Ext.setCell ?_ (by first | exact Nat.le_refl _ | (simp; done) | omega) _ | refine Ext.trans ?_ (by assumption)))⟩
    · have h3' : ¬ (N : Int) < 1 := by omega
      have h4 : (16 : Int) < (N : Int) := by omega
      clear h1
      have hE := Ext.refl w
      go_enter Tryd.func84, Tryd.ntmps84
      go_wp2
      go_ret
      exact ⟨by rw [HB.out]; rfl, (by repeat (first | exact Ext.refl _ | assumption | refine Ext.alloc ?_ _ | refine Ext.drew ?_ | refine Ext.drewN ?_ _ | refine Ext.setCell ?_ (by first | exact Nat.le_refl _ | (simp; done) | omega) _ | refine Ext.trans ?_ (by assumption)))⟩
theorem covB_no {N : Nat} {G : List (Int × Int)} (h : covS N G 0 = false) : covB N G = false := by
  unfold covB
  rw [h, Bool.and_false]
set_option maxRecDepth 20000 in
set_option maxHeartbeats 4000000 in
theorem fits_any (G : List (Int × Int)) (N : Nat) (v : Value) (w : World) (h : Row w v G.length (gcells G)) (hl : G.length ≤ 1000000) (hN : N ≤ 1000000) :
    Calls Tryd.prog 86 #[v, .int .i64 (N : Int)] w fun e w' => e = .returned (.bool (covB N G)) ∧ Ext w w' := by
  obtain ⟨a, cap, rfl⟩ := h.form
  obtain ⟨gn, hgn⟩ : ∃ gn, gn = G.length := ⟨_, rfl⟩
  have HN := Lib.hid hgn
  have HR := Lib.hid h
  rw [← hgn] at HR hl ⊢
  clear h hgn
  go_enter Tryd.func86, Tryd.ntmps86
  go_wp2
  go_loopw [5, 6] (fun xv qv wr => ∃ (q : Nat) (x : Int), q ≤ gn ∧ qv = .int .i64 q ∧ xv = .int .i64 x ∧ Hid (covS N G 0 = covS N (G.drop q) x) ∧ 0 ≤ x ∧ x ≤ N ∧ Ext w wr) (fun _ qv _ => gn - (intOf qv).toNat)
  case atStart => exact ⟨0, 0, Nat.zero_le _, rfl, rfl, rfl, by omega, by omega, Ext.refl _⟩
  case round =>
    obtain ⟨q, x, hq, rfl, rfl, HK, hx0, hx1, hE⟩ := hrel
    by_cases hlt : q < gn
    · obtain ⟨p, hp⟩ : ∃ p, G[q]? = some p := ⟨_, List.getElem?_eq_getElem (by rw [← HN.out]; exact hlt)⟩
      obtain ⟨F, C⟩ := p
      obtain ⟨g, off, cp, e, -, -⟩ := (show Row w (.slice a gn cap) gn (gcells G) from HR.out).some (by omega)
      simp only [Value.slice.injEq] at e
      obtain ⟨rfl, -, rfl⟩ := e
      have gc := gcells_get G q (F, C) hp
      have c0 := hE.cell (HR.out.at gc.1)
      have c1 := hE.cell (HR.out.at gc.2)
      change wr.cell? ⟨g, off + q * 2 + 1, none⟩ = some (.int .i64 C) at c1
      have HS := Lib.hid (covS_at (N := N) (a := x) hp)
      have t4 : (0 : Int) ≤ (q : Int) ∧ (q : Int) < (gn : Int) := by omega
      clear gc hp
      have i1 : IntKind.i64.wrap ((N : Int) - x) = (N : Int) - x := by rw [IntKind.wrap_i64]; omega
      by_cases hF : F = x
      · subst hF
        by_cases hC : C < 1
        · have HB : Hid (covB N G = false) := covB_no (by rw [HK.out, HS.out, if_pos (Or.inr (Or.inl hC))])
          go_wp2
          go_ret
          exact ⟨by rw [HB.out]; rfl, (by repeat (first | exact Ext.refl _ | assumption | refine Ext.alloc ?_ _ | refine Ext.drew ?_ | refine Ext.drewN ?_ _ | refine Ext.setCell ?_ (by first | exact Nat.le_refl _ | (simp; done) | omega) _ | refine Ext.trans ?_ (by assumption)))⟩
        · by_cases hD : (N : Int) - F < C
          · have HB : Hid (covB N G = false) := covB_no (by rw [HK.out, HS.out, if_pos (Or.inr (Or.inr hD))])
            go_wp2
            go_ret
            exact ⟨by rw [HB.out]; rfl, (by repeat (first | exact Ext.refl _ | assumption | refine Ext.alloc ?_ _ | refine Ext.drew ?_ | refine Ext.drewN ?_ _ | refine Ext.setCell ?_ (by first | exact Nat.le_refl _ | (simp; done) | omega) _ | refine Ext.trans ?_ (by assumption)))⟩
          · have HK2 : Hid (covS N G 0 = covS N (G.drop (q + 1)) (F + C)) := by
              show _ = _
              rw [HK.out, HS.out, if_neg (fun h => by
                rcases h with h | h | h
                · exact h rfl
                · exact hC h
                · exact hD h)]
            have i2 : IntKind.i64.wrap (F + C) = F + C := by rw [IntKind.wrap_i64]; omega
            go_wp2
            go_roundw
            case rel => exact ⟨q + 1, F + C, by omega, by go_num, rfl, HK2, by omega, by omega, hE⟩
            case measure => simp [intOf]; omega
      · have HB : Hid (covB N G = false) := covB_no (by rw [HK.out, HS.out, if_pos (Or.inl hF)])
        have hF' : (F != x) = true := by simpa using hF
        clear hF
        go_wp2
        go_ret
        exact ⟨by rw [HB.out]; rfl, (by repeat (first | exact Ext.refl _ | assumption | refine Ext.alloc ?_ _ | refine Ext.drew ?_ | refine Ext.drewN ?_ _ | refine Ext.setCell ?_ (by first | exact Nat.le_refl _ | (simp; done) | omega) _ | refine Ext.trans ?_ (by assumption)))⟩
    · have HB : Hid (covB N G = (decide (x = (N : Int)) && (decide ((1 : Int) ≤ N) && decide ((N : Int) ≤ 16)))) := by
        show _ = _
        unfold covB
        rw [HK.out, covS_end (by rw [← HN.out]; omega), Bool.and_comm]
        congr 1
        rw [Bool.eq_iff_iff]
        simp
        omega
      by_cases hX : x = (N : Int)
      · have hX' : (x == (N : Int)) = true := by simpa using hX
        rw [decide_eq_true hX] at HB
        clear hX
        by_cases hA : (1 : Int) ≤ N
        · rw [decide_eq_true hA] at HB
          by_cases hZ : (N : Int) ≤ 16
          · rw [decide_eq_true hZ] at HB
            go_wp2
            go_ret
            exact ⟨by rw [HB.out]; rfl, (by repeat (first | exact Ext.refl _ | assumption | refine Ext.alloc ?_ _ | refine Ext.drew ?_ | refine Ext.drewN ?_ _ | refine Ext.setCell ?_ (by first | exact Nat.le_refl _ | (simp; done) | omega) _ | refine Ext.trans ?_ (by assumption)))⟩
          · rw [decide_eq_false hZ] at HB
            go_wp2
            go_ret
            exact ⟨by rw [HB.out]; rfl, (by repeat (first | exact Ext.refl _ | assumption | refine Ext.alloc ?_ _ | refine Ext.drew ?_ | refine Ext.drewN ?_ _ | refine Ext.setCell ?_ (by first | exact Nat.le_refl _ | (simp; done) | omega) _ | refine Ext.trans ?_ (by assumption)))⟩
        · rw [decide_eq_false hA] at HB
          go_wp2
          go_ret
          exact ⟨by rw [HB.out]; rfl, (by repeat (first | exact Ext.refl _ | assumption | refine Ext.alloc ?_ _ | refine Ext.drew ?_ | refine Ext.drewN ?_ _ | refine Ext.setCell ?_ (by first | exact Nat.le_refl _ | (simp; done) | omega) _ | refine Ext.trans ?_ (by assumption)))⟩
      · have hX' : (x == (N : Int)) = false := by simpa using hX
        rw [decide_eq_false hX] at HB
        clear hX
        go_wp2
        go_ret
        exact ⟨by rw [HB.out]; rfl, (by repeat (first | exact Ext.refl _ | assumption | refine Ext.alloc ?_ _ | refine Ext.drew ?_ | refine Ext.drewN ?_ _ | refine Ext.setCell ?_ (by first | exact Nat.le_refl _ | (simp; done) | omega) _ | refine Ext.trans ?_ (by assumption)))⟩
end Go.Proofs.YtmhbmegmlpenkaaDoor

/- block.Sub, Add, Zero: contracts over this seat's translation. -/
namespace Go.Proofs.YtmhbmegmlpenkaaDoor
set_option linter.unusedVariables false
set_option linter.unusedSimpArgs false
open Go.RowKit Go.Extern.Stop Go.Stop Go.Extern

theorem rowL_congrb {N : Nat} {f g : Nat → Int} (h : ∀ j, j < N → f j = g j) : rowL N f = rowL N g := by
  unfold rowL
  apply List.map_congr_left
  intro j hj
  exact h j (List.mem_range.1 hj)
theorem zeros_rowb (n : Nat) : (madeCells (Value.int .i64 0).cells (n * 1)).toList = (rowL n fun _ => 0).map (Value.int .i64) := by
  apply List.ext_getElem?
  intro j
  by_cases hj : j < n <;> simp [madeCells, rowL, Value.cells, hj, Nat.mod_one]
def subF (x y : Int) : Int := x - y
def addF (x y : Int) : Int := clipI (x + y)
/-- two lists, number by number -/
def twoV (f : Int → Int → Int) (xs ys : List Int) : List Int := match matAns xs ys with
  | none => rowL xs.length fun i => f (xs.getD i 0) (ys.getD i 0)
  | some _ => []
end Go.Proofs.YtmhbmegmlpenkaaDoor

/- kinref7.two, Sad: contracts over this seat's translation. -/
namespace Go.Proofs.YtmhbmegmlpenkaaDoor
set_option linter.unusedVariables false
set_option linter.unusedSimpArgs false
open Go.RowKit Go.Extern.Stop Go.Stop Go.Extern

theorem within_far {zs : List Int} : within (-1048576) 1048576 zs ↔ zs.any farB = false := by
  constructor
  · intro h
    rw [Bool.eq_false_iff]
    intro ht
    obtain ⟨x, hx, hp⟩ := List.any_eq_true.1 ht
    have := h x hx
    unfold farB at hp
    simp at hp
    omega
  · intro h x hx
    cases hp : farB x with
    | false => exact farB_no hp
    | true => rw [List.any_eq_true.2 ⟨x, hx, hp⟩] at h; cases h
theorem within_far_no {zs : List Int} (h : zs.any farB = true) : ¬ within (-1048576) 1048576 zs := fun k => by rw [within_far.1 k] at h; cases h
set_option maxRecDepth 20000 in
set_option maxHeartbeats 1000000 in
theorem rtwo_any (xs ys : List Int) (v u : Value) (w : World) (ha : Ints w v xs) (hb : Ints w u ys) :
    Calls Tryd.prog 95 #[v, u] w fun e w' => ∃ c, e = .returned (.agg #[.int .i64 c, .slice none 0 0]) ∧ Ext w w' ∧ RErrIs w' (matAns xs ys) c (.slice none 0 0) := by
  have R1 := ResAt.new w
  have W1 := Lib.hid (within_any xs (-1048576) 1048576)
  have W2 := Lib.hid (within_any ys (-1048576) 1048576)
  obtain ⟨a, cap, rfl⟩ := ha.form
  obtain ⟨b, cap', rfl⟩ := hb.form
  by_cases hl : xs.length = ys.length
  · have b1 : ((xs.length : Int) != (ys.length : Int)) = false := by simp; omega
    cases hx : xs.any farB with
    | true =>
      have HR : Hid (matAns xs ys = range) := by show _ = _; unfold matAns; rw [if_pos hl, if_pos (Or.inl hx)]
      have HW := Lib.hid (within_far_no hx)
      clear hl hx
      go_enter Tryd.func95, Tryd.ntmps95
      go_wp2_with fail
      refine (W1.out _ _ (ha.ext (by repeat (first | exact Ext.refl _ | assumption | refine Ext.alloc ?_ _ | refine Ext.drew ?_ | refine Ext.drewN ?_ _ | refine Ext.setCell ?_ (by first | exact Nat.le_refl _ | (simp; done) | omega) _ | refine Ext.trans ?_ (by assumption))))).mono ?_; rintro e w1 ⟨rfl, hx1⟩
      rw [decide_eq_false HW.out]
      go_wp2_with fail
      refine (fail_any 3 _).mono ?_; rintro e w2 ⟨rfl, hx2⟩
      obtain ⟨r0, r1, f0, f1⟩ := R1.ext (hx1.trans hx2)
      clear R1
      go_wp2
      obtain ⟨e0, e1⟩ := res_cells (c := 3) r0 r1 (.slice none 0 0)
      exact bodyPost_ret (v := .agg #[.int .i64 3, .slice none 0 0]) (by simp [results, Tryd.results95, go_sem, e0, e1]) rfl ⟨_, rfl, (by repeat (first | exact Ext.refl _ | assumption | refine Ext.alloc ?_ _ | refine Ext.drew ?_ | refine Ext.drewN ?_ _ | refine Ext.setCell ?_ (by first | exact Nat.le_refl _ | (simp; done) | omega) _ | refine Ext.trans ?_ (by assumption))), by rw [HR.out]; exact RErrIs.code (by decide)⟩
    | false =>
      have HW := Lib.hid (within_far.2 hx)
      cases hy : ys.any farB with
      | true =>
        have HR : Hid (matAns xs ys = range) := by show _ = _; unfold matAns; rw [if_pos hl, if_pos (Or.inr hy)]
        have HV := Lib.hid (within_far_no hy)
        clear hl hx hy
        go_enter Tryd.func95, Tryd.ntmps95
        go_wp2_with fail
        refine (W1.out _ _ (ha.ext (by repeat (first | exact Ext.refl _ | assumption | refine Ext.alloc ?_ _ | refine Ext.drew ?_ | refine Ext.drewN ?_ _ | refine Ext.setCell ?_ (by first | exact Nat.le_refl _ | (simp; done) | omega) _ | refine Ext.trans ?_ (by assumption))))).mono ?_; rintro e w1 ⟨rfl, hx1⟩
        rw [decide_eq_true HW.out]
        go_wp2_with fail
        refine (W2.out _ _ (hb.ext (by repeat (first | exact Ext.refl _ | assumption | refine Ext.alloc ?_ _ | refine Ext.drew ?_ | refine Ext.drewN ?_ _ | refine Ext.setCell ?_ (by first | exact Nat.le_refl _ | (simp; done) | omega) _ | refine Ext.trans ?_ (by assumption))))).mono ?_; rintro e w2 ⟨rfl, hx2⟩
        rw [decide_eq_false HV.out]
        go_wp2_with fail
        refine (fail_any 3 _).mono ?_; rintro e w3 ⟨rfl, hx3⟩
        obtain ⟨r0, r1, f0, f1⟩ := R1.ext ((hx1.trans hx2).trans hx3)
        clear R1
        go_wp2
        obtain ⟨e0, e1⟩ := res_cells (c := 3) r0 r1 (.slice none 0 0)
        exact bodyPost_ret (v := .agg #[.int .i64 3, .slice none 0 0]) (by simp [results, Tryd.results95, go_sem, e0, e1]) rfl ⟨_, rfl, (by repeat (first | exact Ext.refl _ | assumption | refine Ext.alloc ?_ _ | refine Ext.drew ?_ | refine Ext.drewN ?_ _ | refine Ext.setCell ?_ (by first | exact Nat.le_refl _ | (simp; done) | omega) _ | refine Ext.trans ?_ (by assumption))), by rw [HR.out]; exact RErrIs.code (by decide)⟩
      | false =>
        have HR : Hid (matAns xs ys = none) := by show _ = _; unfold matAns; rw [if_pos hl, if_neg (by rw [hx, hy]; decide)]
        have HV := Lib.hid (within_far.2 hy)
        clear hl hx hy
        go_enter Tryd.func95, Tryd.ntmps95
        go_wp2_with fail
        refine (W1.out _ _ (ha.ext (by repeat (first | exact Ext.refl _ | assumption | refine Ext.alloc ?_ _ | refine Ext.drew ?_ | refine Ext.drewN ?_ _ | refine Ext.setCell ?_ (by first | exact Nat.le_refl _ | (simp; done) | omega) _ | refine Ext.trans ?_ (by assumption))))).mono ?_; rintro e w1 ⟨rfl, hx1⟩
        rw [decide_eq_true HW.out]
        go_wp2_with fail
        refine (W2.out _ _ (hb.ext (by repeat (first | exact Ext.refl _ | assumption | refine Ext.alloc ?_ _ | refine Ext.drew ?_ | refine Ext.drewN ?_ _ | refine Ext.setCell ?_ (by first | exact Nat.le_refl _ | (simp; done) | omega) _ | refine Ext.trans ?_ (by assumption))))).mono ?_; rintro e w2 ⟨rfl, hx2⟩
        rw [decide_eq_true HV.out]
        obtain ⟨r0, r1, f0, f1⟩ := R1.ext (hx1.trans hx2)
        clear R1
        go_wp2
        obtain ⟨e0, e1⟩ := res_cells (c := 0) r0 r1 (.slice none 0 0)
        exact bodyPost_ret (v := .agg #[.int .i64 0, .slice none 0 0]) (by simp [results, Tryd.results95, go_sem, e0, e1]) rfl ⟨_, rfl, (by repeat (first | exact Ext.refl _ | assumption | refine Ext.alloc ?_ _ | refine Ext.drew ?_ | refine Ext.drewN ?_ _ | refine Ext.setCell ?_ (by first | exact Nat.le_refl _ | (simp; done) | omega) _ | refine Ext.trans ?_ (by assumption))), by rw [HR.out]; exact RErrIs.zero⟩
  · have b1 : ((xs.length : Int) != (ys.length : Int)) = true := by simp; omega
    have HR : Hid (matAns xs ys = fit) := by show _ = _; unfold matAns; rw [if_neg hl]
    clear hl
    go_enter Tryd.func95, Tryd.ntmps95
    go_wp2_with fail
    refine (fail_any 14 _).mono ?_; rintro e w2 ⟨rfl, hx2⟩
    obtain ⟨r0, r1, f0, f1⟩ := R1.ext hx2
    clear R1
    go_wp2
    obtain ⟨e0, e1⟩ := res_cells (c := 14) r0 r1 (.slice none 0 0)
    exact bodyPost_ret (v := .agg #[.int .i64 14, .slice none 0 0]) (by simp [results, Tryd.results95, go_sem, e0, e1]) rfl ⟨_, rfl, (by repeat (first | exact Ext.refl _ | assumption | refine Ext.alloc ?_ _ | refine Ext.drew ?_ | refine Ext.drewN ?_ _ | refine Ext.setCell ?_ (by first | exact Nat.le_refl _ | (simp; done) | omega) _ | refine Ext.trans ?_ (by assumption))), by rw [HR.out]; exact RErrIs.code (by decide)⟩
end Go.Proofs.YtmhbmegmlpenkaaDoor

/- kinref7.Sad: its contract over this seat's translation. -/
namespace Go.Proofs.YtmhbmegmlpenkaaDoor
set_option linter.unusedVariables false
set_option linter.unusedSimpArgs false
open Go.RowKit Go.Extern.Stop Go.Stop Go.Extern

set_option maxRecDepth 20000 in
set_option maxHeartbeats 2000000 in
theorem rsad_any (xs ys : List Int) (v u : Value) (w : World) (ha : Ints w v xs) (hb : Ints w u ys) (hN : xs.length ≤ 1000000) :
    Calls Tryd.prog 59 #[v, u] w (RIPost w (sadV xs ys) (matAns xs ys)) := by
  have RT := Lib.hid (rtwo_any xs ys)
  obtain ⟨a, cap, rfl⟩ := ha.form
  obtain ⟨b, cap', rfl⟩ := hb.form
  cases hm : matAns xs ys with
  | some f =>
    obtain ⟨p, k⟩ := f
    have HV : Hid (sadV xs ys = 0) := by show _ = _; unfold sadV; rw [hm]
    rw [hm] at RT
    clear hm
    go_enter Tryd.func59, Tryd.ntmps59
    go_wp2_with fail
    refine (RT.out _ _ _ (ha.ext (by repeat (first | exact Ext.refl _ | assumption | refine Ext.alloc ?_ _ | refine Ext.drew ?_ | refine Ext.drewN ?_ _ | refine Ext.setCell ?_ (by first | exact Nat.le_refl _ | (simp; done) | omega) _ | refine Ext.trans ?_ (by assumption)))) (hb.ext (by repeat (first | exact Ext.refl _ | assumption | refine Ext.alloc ?_ _ | refine Ext.drew ?_ | refine Ext.drewN ?_ _ | refine Ext.setCell ?_ (by first | exact Nat.le_refl _ | (simp; done) | omega) _ | refine Ext.trans ?_ (by assumption))))).mono ?_; rintro e w1 ⟨c, rfl, hx1, hr1⟩
    have E1 : Ext w (w1.alloc (.cells #[.int .i64 c, .slice none 0 0] 41)) := (by repeat (first | exact Ext.refl _ | assumption | refine Ext.alloc ?_ _ | refine Ext.drew ?_ | refine Ext.drewN ?_ _ | refine Ext.setCell ?_ (by first | exact Nat.le_refl _ | (simp; done) | omega) _ | refine Ext.trans ?_ (by assumption)))
    have RV := (ResAt.new w).ext (hx1.alloc (.cells #[.int .i64 c, .slice none 0 0] 41))
    have p0 : (w1.alloc (.cells #[.int .i64 c, .slice none 0 0] 41)).cell? ⟨w1.heap.size, 0, none⟩ = some (.int .i64 c) := by simp
    have p1 : (w1.alloc (.cells #[.int .i64 c, .slice none 0 0] 41)).cell? ⟨w1.heap.size, 1, none⟩ = some (.slice none 0 0) := by simp
    go_wp2_with fail
    obtain ⟨B, hB⟩ : ∃ B, B = w1.heap.size := ⟨_, rfl⟩
    rw [← hB] at p0 p1 ⊢
    clear hB
    revert E1 RV p0 p1
    generalize w1.alloc (.cells #[.int .i64 c, .slice none 0 0] 41) = wS
    intro E1 RV p0 p1
    clear hx1
    obtain ⟨rfl, hc, hrow⟩ := hr1
    have hc0 : (c == 0) = false := by simpa using hc
    have HC := Lib.hid hc
    clear hc
    refine wp_loop_rounds 1 ?_
    rw [rounds_succ]
    go_wp2_with fail
    refine (ok_any c _ _).mono ?_; rintro e wA ⟨rfl, hxA⟩
    rw [hc0]
    obtain ⟨r0, r1, f0, f1⟩ := RV.ext hxA
    have q0 := hxA.cell p0
    have q1 := hxA.cell p1
    have hrow := hrow
    clear RV p0 p1
    go_wp2
    go_region
    go_wp2
    obtain ⟨e0, e1⟩ := res_cells (c := c) r0 r1 (.slice none 0 0)
    exact bodyPost_ret (v := .tuple #[.int .i64 0, .agg #[.int .i64 c, .slice none 0 0]]) (by simp [results, Tryd.results59, go_sem, e0, e1]) rfl ⟨_, _, _, _, by rw [HV.out], (by repeat (first | exact Ext.refl _ | assumption | refine Ext.alloc ?_ _ | refine Ext.drew ?_ | refine Ext.drewN ?_ _ | refine Ext.setCell ?_ (by first | exact Nat.le_refl _ | (simp; done) | omega) _ | refine Ext.trans ?_ (by assumption))), rfl, HC.out, by
      have hp : p = [] := by
        have := hrow.form
        obtain ⟨a, cap, e⟩ := this
        simp only [Value.slice.injEq] at e
        exact List.eq_nil_of_length_eq_zero e.2.1.symm
      subst hp
      exact Row.nil _⟩
  | none =>
    obtain ⟨hl, hX, hY⟩ := matAns_none hm
    have HV : Hid (sadV xs ys = sadF (fun i => xs.getD i 0) (fun i => ys.getD i 0) xs.length) := by show _ = _; unfold sadV; rw [hm]
    rw [hm] at RT
    obtain ⟨n, hn⟩ : ∃ n, n = xs.length := ⟨_, rfl⟩
    rw [← hn] at ha hN HV hl ⊢
    rw [← hl] at hb ⊢
    have AG := Lib.hid ha.had
    have BG := Lib.hid hb.had
    have HN := Lib.hid hn
    have HL := Lib.hid hl
    have HX := Lib.hid hX
    have HY := Lib.hid hY
    clear hm hl hX hY hn
    go_enter Tryd.func59, Tryd.ntmps59
    go_wp2_with fail
    refine (RT.out _ _ _ (ha.ext (by repeat (first | exact Ext.refl _ | assumption | refine Ext.alloc ?_ _ | refine Ext.drew ?_ | refine Ext.drewN ?_ _ | refine Ext.setCell ?_ (by first | exact Nat.le_refl _ | (simp; done) | omega) _ | refine Ext.trans ?_ (by assumption)))) (hb.ext (by repeat (first | exact Ext.refl _ | assumption | refine Ext.alloc ?_ _ | refine Ext.drew ?_ | refine Ext.drewN ?_ _ | refine Ext.setCell ?_ (by first | exact Nat.le_refl _ | (simp; done) | omega) _ | refine Ext.trans ?_ (by assumption))))).mono ?_; rintro e w1 ⟨c, rfl, hx1, hr1⟩
    have E1 : Ext w (w1.alloc (.cells #[.int .i64 c, .slice none 0 0] 41)) := (by repeat (first | exact Ext.refl _ | assumption | refine Ext.alloc ?_ _ | refine Ext.drew ?_ | refine Ext.drewN ?_ _ | refine Ext.setCell ?_ (by first | exact Nat.le_refl _ | (simp; done) | omega) _ | refine Ext.trans ?_ (by assumption)))
    have RV := (ResAt.new w).ext (hx1.alloc (.cells #[.int .i64 c, .slice none 0 0] 41))
    have p0 : (w1.alloc (.cells #[.int .i64 c, .slice none 0 0] 41)).cell? ⟨w1.heap.size, 0, none⟩ = some (.int .i64 c) := by simp
    have p1 : (w1.alloc (.cells #[.int .i64 c, .slice none 0 0] 41)).cell? ⟨w1.heap.size, 1, none⟩ = some (.slice none 0 0) := by simp
    go_wp2_with fail
    obtain ⟨B, hB⟩ : ∃ B, B = w1.heap.size := ⟨_, rfl⟩
    rw [← hB] at p0 p1 ⊢
    clear hB
    revert E1 RV p0 p1
    generalize w1.alloc (.cells #[.int .i64 c, .slice none 0 0] 41) = wS
    intro E1 RV p0 p1
    clear hx1
    obtain ⟨rfl, -⟩ := hr1
    go_loopw [7, 8] (fun sv iv wr => ∃ k : Nat, k ≤ n ∧ iv = .int .i64 k ∧ sv = .int .i64 (sadF (fun i => xs.getD i 0) (fun i => ys.getD i 0) k) ∧ Ext wS wr) (fun _ iv _ => n - (intOf iv).toNat)
    case atStart => exact ⟨0, Nat.zero_le _, rfl, rfl, Ext.refl _⟩
    case round =>
      obtain ⟨k, hk, rfl, rfl, hE⟩ := hrel
      have q0 := hE.cell p0
      have q1 := hE.cell p1
      go_wp2_with fail
      refine (ok_any 0 _ _).mono ?_; rintro e wA ⟨rfl, hxA⟩
      rw [show ((0 : Int) == 0) = true from rfl]
      have hE : Ext wS wA := hE.trans hxA
      clear hxA q0 q1
      by_cases hlt : k < n
      · obtain ⟨x, hx'⟩ : ∃ x, xs.getD k 0 = x := ⟨_, rfl⟩
        obtain ⟨y, hy'⟩ : ∃ y, ys.getD k 0 = y := ⟨_, rfl⟩
        obtain ⟨g, off, rfl⟩ := AG.out (by omega)
        obtain ⟨g', off', rfl⟩ := BG.out (by omega)
        have cx := (E1.trans hE).cell (ha.at (get_of_lt (by rw [← HN.out]; exact hlt)))
        have cy := (E1.trans hE).cell (hb.at (get_of_lt (by rw [← HL.out]; exact hlt)))
        have bx := HX.out k
        have by' := HY.out k
        have b0 := sadF_bound HX.out HY.out k
        have b1 := sadF_pos (fun i => xs.getD i 0) (fun i => ys.getD i 0) k
        have HS : Hid (sadF (fun i => xs.getD i 0) (fun i => ys.getD i 0) (k + 1) = sadF (fun i => xs.getD i 0) (fun i => ys.getD i 0) k + max (x - y) (y - x)) := by show _ = _; rw [← hx', ← hy']; rfl
        rw [hx'] at cx bx
        rw [hy'] at cy by'
        clear hx' hy'
        revert b0 b1 HS
        generalize sadF (fun i => xs.getD i 0) (fun i => ys.getD i 0) k = s
        intro b0 b1 HS
        have r1 := mx2
        have e1 : IntKind.i64.wrap (x - y) = x - y := by rw [IntKind.wrap_i64]; omega
        have e2 : IntKind.i64.wrap (y - x) = y - x := by rw [IntKind.wrap_i64]; omega
        have e3 : IntKind.i64.wrap (s + max (x - y) (y - x)) = s + max (x - y) (y - x) := by rw [IntKind.wrap_i64]; omega
        go_wp2
        go_quiet (fail)
        go_wp2
        go_roundw
        case rel => exact ⟨k + 1, by omega, by go_num, by rw [HS.out], hE.drewN _⟩
        case measure => simp [intOf]; omega
      · obtain rfl : k = n := by omega
        obtain ⟨r0, r1, f0, f1⟩ := RV.ext hE
        have q0 := hE.cell p0
        have q1 := hE.cell p1
        clear p0 p1 RV
        go_wp2
        go_region
        go_wp2
        obtain ⟨e0, e1⟩ := res_cells (c := 0) r0 r1 (.slice none 0 0)
        exact bodyPost_ret (v := .tuple #[.int .i64 (sadF (fun i => xs.getD i 0) (fun i => ys.getD i 0) k), .agg #[.int .i64 0, .slice none 0 0]]) (by simp [results, Tryd.results59, go_sem, e0, e1]) rfl ⟨_, _, _, _, by rw [HV.out], (by repeat (first | exact Ext.refl _ | assumption | refine Ext.alloc ?_ _ | refine Ext.drew ?_ | refine Ext.drewN ?_ _ | refine Ext.setCell ?_ (by first | exact Nat.le_refl _ | (simp; done) | omega) _ | refine Ext.trans ?_ (by assumption))), RErrIs.zero⟩
end Go.Proofs.YtmhbmegmlpenkaaDoor

/- stats.activity, sum, Inner, Outer; kinref16.inside: contracts over this seat's translation. -/
namespace Go.Proofs.YtmhbmegmlpenkaaDoor
set_option linter.unusedVariables false
set_option linter.unusedSimpArgs false
open Go.RowKit Go.Extern.Stop Go.Stop Go.Extern

set_option maxRecDepth 20000 in
set_option maxHeartbeats 1000000 in
theorem activity_any (f : Nat → Int) (hf : ∀ j, 0 ≤ f j ∧ f j ≤ 255) (v : Value) (w : World) (h : Ints w v (rowL 64 f)) :
    Calls Tryd.prog 79 #[v] w fun e w' => e = .returned (.int .i64 (actF f)) ∧ w = w' := by
  obtain ⟨g, off, cap, rfl, -, -⟩ := h.addr (by rw [rowL_length]; decide)
  rw [rowL_length] at h ⊢
  have HF := Lib.hid hf
  have HA : Hid (actF f = sadF f (fun _ => meanF f) 64) := rfl
  clear hf
  go_enter Tryd.func79, Tryd.ntmps79
  go_wp2
  go_loop [3, 14] (fun sv iv => ∃ k : Nat, k ≤ 64 ∧ iv = .int .i64 k ∧ sv = .int .i64 (32 + sumF f k)) (fun _ iv => 64 - (intOf iv).toNat)
  case atStart => exact ⟨0, by omega, rfl, rfl⟩
  case round =>
    obtain ⟨k, hk, rfl, rfl⟩ := hrel
    have b0 := sumF_bound HF.out k
    by_cases hlt : k < 64
    · have bx := HF.out k
      have cx := h.at (rowL_get (f := f) hlt)
      have HS : Hid (sumF f (k + 1) = sumF f k + f k) := rfl
      revert b0 bx cx HS
      generalize sumF f k = s
      generalize f k = x
      intro b0 bx cx HS
      go_wp2
      go_round
      case rel => exact ⟨k + 1, by omega, by go_num, by rw [HS.out, Int.add_assoc]⟩
      case measure => simp [intOf]; omega
    · obtain rfl : k = 64 := by omega
      have bm := meanF_in HF.out
      have b0 := sumF_bound HF.out 64
      have HM : Hid ((32 + sumF f 64) / 64 = meanF f) := rfl
      clear hlt hk
      revert HM b0 bm HA
      generalize sumF f 64 = s
      generalize meanF f = m
      intro HA bm b0 HM
      have hm := HM.out
      go_wp2
      clear hm
      go_loop [6, 28] (fun sv iv => ∃ k : Nat, k ≤ 64 ∧ iv = .int .i64 k ∧ sv = .int .i64 (sadF f (fun _ => m) k)) (fun _ iv => 64 - (intOf iv).toNat)
      case atStart => exact ⟨0, by omega, rfl, rfl⟩
      case round =>
        obtain ⟨k, hk, rfl, rfl⟩ := hrel
        have bs := sadF_pos f (fun _ => m) k
        have bt := sadF_le HF.out (fun _ => bm) k
        by_cases hlt : k < 64
        · have bx := HF.out k
          have cx := h.at (rowL_get (f := f) hlt)
          have HS : Hid (sadF f (fun _ => m) (k + 1) = sadF f (fun _ => m) k + max (f k - m) (m - f k)) := rfl
          revert bs bt bx cx HS
          generalize sadF f (fun _ => m) k = a
          generalize f k = x
          intro bs bt bx cx HS
          have r1 := mx2
          have e1 : IntKind.i64.wrap (x - m) = x - m := by rw [IntKind.wrap_i64]; omega
          have e2 : IntKind.i64.wrap (m - x) = m - x := by rw [IntKind.wrap_i64]; omega
          have e3 : IntKind.i64.wrap (a + max (x - m) (m - x)) = a + max (x - m) (m - x) := by rw [IntKind.wrap_i64]; omega
          go_wp2
          go_round
          case rel => exact ⟨k + 1, by omega, by go_num, by rw [HS.out]⟩
          case measure => simp [intOf]; omega
        · obtain rfl : k = 64 := by omega
          go_wp2
          go_ret
          exact ⟨by rw [HA.out]; rfl, rfl⟩
set_option maxRecDepth 20000 in
set_option maxHeartbeats 1000000 in
theorem inside_any (f : Nat → Int) (hf : ∀ j, 0 ≤ f j ∧ f j ≤ 255) (v : Value) (w : World) (h : Ints w v (rowL 64 f)) :
    Calls Tryd.prog 80 #[v] w fun e w' => e = .returned (.int .i64 (actF f)) ∧ Ext w w' := by
  obtain ⟨g, off, cap, rfl, -, -⟩ := h.addr (by rw [rowL_length]; decide)
  rw [rowL_length] at h ⊢
  have HF := Lib.hid hf
  have HA : Hid (actF f = sadF f (fun _ => meanF f) 64) := rfl
  clear hf
  go_enter Tryd.func80, Tryd.ntmps80
  go_wp2
  go_loop [3, 4] (fun sv iv => ∃ k : Nat, k ≤ 64 ∧ iv = .int .i64 k ∧ sv = .int .i64 (32 + sumF f k)) (fun _ iv => 64 - (intOf iv).toNat)
  case atStart => exact ⟨0, by omega, rfl, rfl⟩
  case round =>
    obtain ⟨k, hk, rfl, rfl⟩ := hrel
    have b0 := sumF_bound HF.out k
    by_cases hlt : k < 64
    · have bx := HF.out k
      have cx := h.at (rowL_get (f := f) hlt)
      have HS : Hid (sumF f (k + 1) = sumF f k + f k) := rfl
      revert b0 bx cx HS
      generalize sumF f k = s
      generalize f k = x
      intro b0 bx cx HS
      go_wp2
      go_round
      case rel => exact ⟨k + 1, by omega, by go_num, by rw [HS.out, Int.add_assoc]⟩
      case measure => simp [intOf]; omega
    · obtain rfl : k = 64 := by omega
      have bm := meanF_in HF.out
      have b0 := sumF_bound HF.out 64
      have HM : Hid ((32 + sumF f 64) / 64 = meanF f) := rfl
      clear hlt hk
      revert HM b0 bm HA
      generalize sumF f 64 = s
      generalize meanF f = m
      intro HA bm b0 HM
      have hm := HM.out
      go_wp2
      clear hm
      go_loopw [5, 6] (fun sv iv wr => ∃ k : Nat, k ≤ 64 ∧ iv = .int .i64 k ∧ sv = .int .i64 (sadF f (fun _ => m) k) ∧ Ext w wr) (fun _ iv _ => 64 - (intOf iv).toNat)
      case atStart => exact ⟨0, by omega, rfl, rfl, Ext.refl _⟩
      case round =>
        obtain ⟨k, hk, rfl, rfl, hE⟩ := hrel
        have bs := sadF_pos f (fun _ => m) k
        have bt := sadF_le HF.out (fun _ => bm) k
        by_cases hlt : k < 64
        · have bx := HF.out k
          have cx := hE.cell (h.at (rowL_get (f := f) hlt))
          have HS : Hid (sadF f (fun _ => m) (k + 1) = sadF f (fun _ => m) k + max (f k - m) (m - f k)) := rfl
          revert bs bt bx cx HS
          generalize sadF f (fun _ => m) k = a
          generalize f k = x
          intro bs bt bx cx HS
          have r1 := mx2
          have e1 : IntKind.i64.wrap (x - m) = x - m := by rw [IntKind.wrap_i64]; omega
          have e2 : IntKind.i64.wrap (m - x) = m - x := by rw [IntKind.wrap_i64]; omega
          have e3 : IntKind.i64.wrap (a + max (x - m) (m - x)) = a + max (x - m) (m - x) := by rw [IntKind.wrap_i64]; omega
          have e4 : (0 : Int) ≤ (k : Int) ∧ (k : Int) < 64 := by omega
          go_wp2
          go_quiet (fail)
          go_wp2
          go_roundw
          case rel => exact ⟨k + 1, by omega, by go_num, by rw [HS.out], hE.drewN _⟩
          case measure => simp [intOf]; omega
        · obtain rfl : k = 64 := by omega
          go_wp2
          go_ret
          exact ⟨by rw [HA.out]; rfl, hE⟩
set_option maxRecDepth 20000 in
set_option maxHeartbeats 2000000 in
theorem sum_inner (W H : Int) (u : Value) (m p : Nat) (v : Nat → Nat → Int) (w : World) (B B' : Nat) (hW : W = 8 * (m : Int)) (hH : H = 8 * (p : Int)) (hm : m ≤ 4) (hp : p ≤ 4) (hv : ∀ i j, 0 ≤ v i j ∧ v i j ≤ 16320)
    (hc : Hid (∀ (i j : Nat) w1, Ext w w1 → i < m → j < p → Calls Tryd.prog 78 #[.int .i64 (8 * (i : Int)), .int .i64 (8 * (j : Int)), Value.pointer (some ⟨B, 0, none⟩)] w1 fun e w' => e = .returned (.tuple #[.int .i64 (v i j), .nilIface]) ∧ Ext w1 w')) :
    Calls Tryd.prog 77 #[.agg #[.int .i64 W, .int .i64 H, u], .func (.func 78) #[] #[Value.pointer (some ⟨B, 0, none⟩)]] w fun e w' => e = .returned (.tuple #[.int .i64 (blkF v m (m * p)), .nilIface]) ∧ Ext w w' := by
  have FB := FrBox.new w W H u
  have HV := Lib.hid hv
  have HW := Lib.hid hW
  have HH := Lib.hid hH
  clear hW hH
  have E0 : Ext w (w.alloc (.cells #[.int .i64 W, .int .i64 H, u] 24)) := (Ext.refl w).alloc _
  clear hv
  go_enter Tryd.func77, Tryd.ntmps77
  go_wp2_with fail
  revert FB E0
  generalize w.alloc (.cells #[.int .i64 W, .int .i64 H, u] 24) = w0
  intro FB E0
  have HB := Lib.hid FB
  clear FB
  have r1 := mn2
  go_loopw [6, 7] (fun sv yv wr => ∃ j : Nat, j ≤ p ∧ yv = .int .i64 (8 * (j : Int)) ∧ sv = .int .i64 (blkF v m (j * m)) ∧ Ext w0 wr) (fun _ yv _ => 32 - (intOf yv).toNat)
  case atStart => exact ⟨0, Nat.zero_le _, rfl, by simp [blkF], Ext.refl _⟩
  case round =>
    obtain ⟨j, hj, rfl, rfl, hE⟩ := hrel
    obtain ⟨p0, p1, p2⟩ := HB.out.ext hE
    by_cases hlt : j < p
    · have t1 : (8 * (j : Int)) < H := by have := HH.out; omega
      have EO := Lib.hid hE
      go_wp2_with fail
      clear p0 p1 p2 hE
      obtain ⟨wo, hwo⟩ : ∃ wo : World, wo = wr := ⟨_, rfl⟩
      rw [← hwo] at EO ⊢
      clear hwo wr
      go_loopw [6, 8] (fun sv xv wr => ∃ i : Nat, i ≤ m ∧ xv = .int .i64 (8 * (i : Int)) ∧ sv = .int .i64 (blkF v m (j * m + i)) ∧ Ext w0 wr) (fun _ xv _ => 32 - (intOf xv).toNat)
      case atStart => exact ⟨0, Nat.zero_le _, rfl, rfl, EO.out⟩
      case round =>
        obtain ⟨i, hi, rfl, rfl, hE⟩ := hrel
        obtain ⟨p0, p1, p2⟩ := HB.out.ext hE
        by_cases hil : i < m
        · have t2 : (8 * (i : Int)) < W := by have := HW.out; omega
          have HS := Lib.hid (blkF_at v (j := j) hil)
          have b0 := blkF_bound HV.out m (j * m + i)
          have b1 := HV.out i j
          have hmm : j * m + i ≤ 100 := by
            have := Nat.mul_le_mul hj (Nat.le_refl m)
            have := Nat.mul_le_mul hp hm
            have := Nat.mul_le_mul (Nat.le_of_lt hlt) hm
            have := Nat.mul_le_mul (show j ≤ 4 by omega) hm
            omega
          go_wp2_with fail
          refine (hc.out i j _ (E0.trans hE) hil hlt).mono ?_; rintro e w5 ⟨rfl, hx5⟩
          revert b0 b1 HS
          generalize blkF v m (j * m + i) = s
          generalize v i j = x
          intro HS b0 b1
          have hE5 := hE.trans hx5
          clear p0 p1 p2 hE hx5
          go_wp2
          go_roundw
          case rel => exact ⟨i + 1, by omega, by go_num, by rw [← Nat.add_assoc, HS.out], hE5⟩
          case measure => simp [intOf]; omega
        · obtain rfl : i = m := by omega
          have t2 : ¬ (8 * (i : Int)) < W := by have := HW.out; omega
          go_wp2
          go_roundw
          case rel => exact ⟨j + 1, by omega, by go_num, by rw [Nat.succ_mul], hE⟩
          case measure => simp [intOf]; omega
    · obtain rfl : j = p := by omega
      have t1 : ¬ (8 * (j : Int)) < H := by have := HH.out; omega
      have HP : Hid (blkF v m (m * j) = blkF v m (j * m)) := by show _ = _; rw [Nat.mul_comm]
      go_wp2
      go_ret2
      exact ⟨by rw [HP.out]; rfl, E0.trans hE⟩
set_option maxRecDepth 20000 in
set_option maxHeartbeats 2000000 in
theorem sum_outer (W H : Int) (u : Value) (m p : Nat) (v : Nat → Nat → Int) (w : World) (B B' : Nat) (hW : W = 8 * (m : Int)) (hH : H = 8 * (p : Int)) (hm : m ≤ 4) (hp : p ≤ 4) (hv : ∀ i j, 0 ≤ v i j ∧ v i j ≤ 16320)
    (hc : Hid (∀ (i j : Nat) w1, Ext w w1 → i < m → j < p → Calls Tryd.prog 82 #[.int .i64 (8 * (i : Int)), .int .i64 (8 * (j : Int)), Value.pointer (some ⟨B, 0, none⟩), Value.pointer (some ⟨B', 0, none⟩)] w1 fun e w' => e = .returned (.tuple #[.int .i64 (v i j), .nilIface]) ∧ Ext w1 w')) :
    Calls Tryd.prog 77 #[.agg #[.int .i64 W, .int .i64 H, u], .func (.func 82) #[] #[Value.pointer (some ⟨B, 0, none⟩), Value.pointer (some ⟨B', 0, none⟩)]] w fun e w' => e = .returned (.tuple #[.int .i64 (blkF v m (m * p)), .nilIface]) ∧ Ext w w' := by
  have FB := FrBox.new w W H u
  have HV := Lib.hid hv
  have HW := Lib.hid hW
  have HH := Lib.hid hH
  clear hW hH
  have E0 : Ext w (w.alloc (.cells #[.int .i64 W, .int .i64 H, u] 24)) := (Ext.refl w).alloc _
  clear hv
  go_enter Tryd.func77, Tryd.ntmps77
  go_wp2_with fail
  revert FB E0
  generalize w.alloc (.cells #[.int .i64 W, .int .i64 H, u] 24) = w0
  intro FB E0
  have HB := Lib.hid FB
  clear FB
  have r1 := mn2
  go_loopw [6, 7] (fun sv yv wr => ∃ j : Nat, j ≤ p ∧ yv = .int .i64 (8 * (j : Int)) ∧ sv = .int .i64 (blkF v m (j * m)) ∧ Ext w0 wr) (fun _ yv _ => 32 - (intOf yv).toNat)
  case atStart => exact ⟨0, Nat.zero_le _, rfl, by simp [blkF], Ext.refl _⟩
  case round =>
    obtain ⟨j, hj, rfl, rfl, hE⟩ := hrel
    obtain ⟨p0, p1, p2⟩ := HB.out.ext hE
    by_cases hlt : j < p
    · have t1 : (8 * (j : Int)) < H := by have := HH.out; omega
      have EO := Lib.hid hE
      go_wp2_with fail
      clear p0 p1 p2 hE
      obtain ⟨wo, hwo⟩ : ∃ wo : World, wo = wr := ⟨_, rfl⟩
      rw [← hwo] at EO ⊢
      clear hwo wr
      go_loopw [6, 8] (fun sv xv wr => ∃ i : Nat, i ≤ m ∧ xv = .int .i64 (8 * (i : Int)) ∧ sv = .int .i64 (blkF v m (j * m + i)) ∧ Ext w0 wr) (fun _ xv _ => 32 - (intOf xv).toNat)
      case atStart => exact ⟨0, Nat.zero_le _, rfl, rfl, EO.out⟩
      case round =>
        obtain ⟨i, hi, rfl, rfl, hE⟩ := hrel
        obtain ⟨p0, p1, p2⟩ := HB.out.ext hE
        by_cases hil : i < m
        · have t2 : (8 * (i : Int)) < W := by have := HW.out; omega
          have HS := Lib.hid (blkF_at v (j := j) hil)
          have b0 := blkF_bound HV.out m (j * m + i)
          have b1 := HV.out i j
          have hmm : j * m + i ≤ 100 := by
            have := Nat.mul_le_mul hj (Nat.le_refl m)
            have := Nat.mul_le_mul hp hm
            have := Nat.mul_le_mul (Nat.le_of_lt hlt) hm
            have := Nat.mul_le_mul (show j ≤ 4 by omega) hm
            omega
          go_wp2_with fail
          refine (hc.out i j _ (E0.trans hE) hil hlt).mono ?_; rintro e w5 ⟨rfl, hx5⟩
          revert b0 b1 HS
          generalize blkF v m (j * m + i) = s
          generalize v i j = x
          intro HS b0 b1
          have hE5 := hE.trans hx5
          clear p0 p1 p2 hE hx5
          go_wp2
          go_roundw
          case rel => exact ⟨i + 1, by omega, by go_num, by rw [← Nat.add_assoc, HS.out], hE5⟩
          case measure => simp [intOf]; omega
        · obtain rfl : i = m := by omega
          have t2 : ¬ (8 * (i : Int)) < W := by have := HW.out; omega
          go_wp2
          go_roundw
          case rel => exact ⟨j + 1, by omega, by go_num, by rw [Nat.succ_mul], hE⟩
          case measure => simp [intOf]; omega
    · obtain rfl : j = p := by omega
      have t1 : ¬ (8 * (j : Int)) < H := by have := HH.out; omega
      have HP : Hid (blkF v m (m * j) = blkF v m (j * m)) := by show _ = _; rw [Nat.mul_comm]
      go_wp2
      go_ret2
      exact ⟨by rw [HP.out]; rfl, E0.trans hE⟩
end Go.Proofs.YtmhbmegmlpenkaaDoor

/- stats.Inner, Outer: contracts over this seat's translation. -/
namespace Go.Proofs.YtmhbmegmlpenkaaDoor
set_option linter.unusedVariables false
set_option linter.unusedSimpArgs false
open Go.RowKit Go.Extern.Stop Go.Stop Go.Extern

theorem get8 (W H : Int) (i j : Nat) (hi : i < 4) (hj : j < 4) (zs : List Int) (a : Option Addr) (n cap : Nat) (w : World) (h : Ints w (.slice a n cap) zs) (hm : may W H zs) :
    Calls Tryd.prog 32 #[.agg #[.int .i64 W, .int .i64 H, .slice a n cap], .int .i64 (8 * (i : Int)), .int .i64 (8 * (j : Int)), .int .i64 8] w fun e w' => ∃ u, e = .returned u ∧ Ext w w' ∧ Ints w' u (rowL 64 (sqF W H zs i j)) :=
  get_ok W H (8 * (i : Int)) (8 * (j : Int)) 8 zs a n cap w h hm (by decide) (by omega) (by omega)
theorem rget8 (W H : Int) (i j : Nat) (hi : i < 4) (hj : j < 4) (zs : List Int) (a : Option Addr) (n cap : Nat) (w : World) (h : Ints w (.slice a n cap) zs) (hm : may W H zs) :
    Calls Tryd.prog 81 #[.agg #[.int .i64 W, .int .i64 H, .slice a n cap], .int .i64 (8 * (i : Int)), .int .i64 (8 * (j : Int)), .int .i64 8] w fun e w' => ∃ u, e = .returned u ∧ Ext w w' ∧ Ints w' u (rowL 64 (sqF W H zs i j)) :=
  rget_ok W H (8 * (i : Int)) (8 * (j : Int)) 8 zs a n cap w h hm (by decide) (by omega) (by omega)
theorem sad_rows {f g : Nat → Int} (hf : ∀ j, 0 ≤ f j ∧ f j ≤ 255) (hg : ∀ j, 0 ≤ g j ∧ g j ≤ 255) : matAns (rowL 64 f) (rowL 64 g) = none ∧ sadV (rowL 64 f) (rowL 64 g) = sadF f g 64 := by
  have any (h : Nat → Int) (hh : ∀ j, 0 ≤ h j ∧ h j ≤ 255) : (rowL 64 h).any farB = false := any_no fun j x hj hx => by
    rw [rowL_length] at hj
    rw [rowL_get hj] at hx
    obtain rfl : h j = x := by simpa using hx
    have := hh j
    unfold farB
    simp
    omega
  have hm : matAns (rowL 64 f) (rowL 64 g) = none := by
    unfold matAns
    rw [if_pos (by rw [rowL_length, rowL_length]), if_neg (by rw [any f hf, any g hg]; simp)]
  refine ⟨hm, ?_⟩
  unfold sadV
  rw [hm]
  show sadF _ _ _ = _
  rw [rowL_length, sadF_sum, sadF_sum]
  exact sumF_congr fun j hj => by simp only [List.getD, rowL_get hj, Option.getD_some]
theorem sadF_in {f g : Nat → Int} (hf : ∀ j, 0 ≤ f j ∧ f j ≤ 255) (hg : ∀ j, 0 ≤ g j ∧ g j ≤ 255) : 0 ≤ sadF f g 64 ∧ sadF f g 64 ≤ 16320 := ⟨sadF_pos _ _ _, sadF_le hf hg 64⟩
set_option maxRecDepth 20000 in
theorem inner1_any (W H : Int) (zs : List Int) (hm : may W H zs) (i j : Nat) (hi : i < 4) (hj : j < 4) (a : Option Addr) (n cap B : Nat) (w : World) (h : Ints w (.slice a n cap) zs) (hB : FrBox w B W H (.slice a n cap)) :
    Calls Tryd.prog 78 #[.int .i64 (8 * (i : Int)), .int .i64 (8 * (j : Int)), .pointer (some ⟨B, 0, none⟩)] w fun e w' => e = .returned (.tuple #[.int .i64 (innV W H zs i j), .nilIface]) ∧ Ext w w' := by
  obtain ⟨p0, p1, p2⟩ := hB
  have G := Lib.hid (fun w h => get8 W H i j hi hj zs a n cap w h hm)
  have A := Lib.hid (activity_any _ (sqF_in hm i j))
  have HR : Hid (innV W H zs i j = actF (sqF W H zs i j)) := rfl
  clear hm hi hj
  go_enter Tryd.func78, Tryd.ntmps78
  go_wp2_with fail
  refine (G.out _ h).mono ?_; rintro e w1 ⟨u, rfl, hx1, hu⟩
  have HU := Lib.hid hu
  clear hu
  go_wp2_with fail
  refine (A.out _ _ HU.out).mono ?_; rintro e w2 ⟨rfl, rfl⟩
  go_wp2
  go_ret2
  exact ⟨by rw [HR.out]; rfl, hx1⟩
set_option maxRecDepth 20000 in
theorem outer1_any (W H W' H' : Int) (xs ys : List Int) (hm : may W H xs) (hm' : may W' H' ys) (i j : Nat) (hi : i < 4) (hj : j < 4) (a b : Option Addr) (n m ca cb B B' : Nat) (w : World) (h : Ints w (.slice a n ca) xs) (k : Ints w (.slice b m cb) ys)
    (hB : FrBox w B W H (.slice a n ca)) (hB' : FrBox w B' W' H' (.slice b m cb)) :
    Calls Tryd.prog 82 #[.int .i64 (8 * (i : Int)), .int .i64 (8 * (j : Int)), .pointer (some ⟨B, 0, none⟩), .pointer (some ⟨B', 0, none⟩)] w fun e w' => e = .returned (.tuple #[.int .i64 (outV W H xs W' H' ys i j), .nilIface]) ∧ Ext w w' := by
  have G := Lib.hid (fun w h => get8 W H i j hi hj xs a n ca w h hm)
  have G' := Lib.hid (fun w h => get8 W' H' i j hi hj ys b m cb w h hm')
  have A := Lib.hid (activity_any _ (sqF_in hm i j))
  have S := Lib.hid (sad_rows (sqF_in hm i j) (sqF_in hm' i j))
  have bS := sadF_in (sqF_in hm i j) (sqF_in hm' i j)
  have bA := actF_in (sqF_in hm i j)
  have HR : Hid (outV W H xs W' H' ys i j = min (actF (sqF W H xs i j)) (sadF (sqF W H xs i j) (sqF W' H' ys i j) 64)) := rfl
  have HB := Lib.hid hB'
  obtain ⟨p0, p1, p2⟩ := hB
  have r1 := mn2
  clear hm hm' hi hj hB'
  go_enter Tryd.func82, Tryd.ntmps82
  go_wp2_with fail
  refine (G.out _ h).mono ?_; rintro e w1 ⟨u, rfl, hx1, hu⟩
  have HU := Lib.hid hu
  obtain ⟨q0, q1, q2⟩ := HB.out.ext hx1
  clear hu p0 p1 p2
  go_wp2_with fail
  refine (G'.out _ (k.ext hx1)).mono ?_; rintro e w2 ⟨u', rfl, hx2, hu'⟩
  have HU' := Lib.hid (sad_any _ _ _ _ _ (HU.out.ext hx2) hu' (by rw [rowL_length]; decide))
  clear hu' q0 q1 q2
  go_wp2_with fail
  rw [S.out.1, S.out.2] at HU'
  refine (HU'.out).mono ?_; rintro e w3 ⟨x3, rfl, hx3, he3⟩
  obtain rfl : x3 = .nilIface := he3
  have E3 := (hx1.trans hx2).trans hx3
  have HU3 := Lib.hid (HU.out.ext (hx2.trans hx3))
  clear HU' hx1 hx2 hx3
  go_wp2_with fail
  refine (A.out _ _ HU3.out).mono ?_; rintro e w4 ⟨rfl, rfl⟩
  revert HR bS bA
  generalize actF (sqF W H xs i j) = s
  generalize sadF (sqF W H xs i j) (sqF W' H' ys i j) 64 = t
  intro bS bA HR
  go_wp2
  go_ret2
  exact ⟨by rw [HR.out]; rfl, E3⟩
set_option maxRecDepth 20000 in
set_option maxHeartbeats 1000000 in
theorem inner_any (W H : Int) (zs : List Int) (a : Option Addr) (n cap : Nat) (w : World) (h : Ints w (.slice a n cap) zs) :
    Calls Tryd.prog 43 #[.agg #[.int .i64 W, .int .i64 H, .slice a n cap]] w (IPost w (inV W H zs) (inAns W H zs)) := by
  have M1 := Lib.hid (fun w h => may_any W H zs a n cap w h)
  have FB0 := FrBox.new w W H (.slice a n cap)
  have E0 : Ext w (w.alloc (.cells #[.int .i64 W, .int .i64 H, .slice a n cap] 24)) := (Ext.refl w).alloc _
  by_cases h1 : may W H zs
  · have HR : Hid (inAns W H zs = none) := by show _ = _; unfold inAns; rw [if_pos h1]
    obtain ⟨m, p, hW, hH, hm1, hm4, hp1, hp4, e1, e2⟩ := may_sides h1
    have HV : Hid (inV W H zs = blkF (innV W H zs) m (m * p)) := by show _ = _; unfold inV; rw [if_pos h1, e1, e2]
    have HM := Lib.hid h1
    have IB := Lib.hid (fun i j => innV_in h1 i j)
    have HW := Lib.hid hW
    have HH := Lib.hid hH
    clear h1 e1 e2 hW hH
    go_enter Tryd.func43, Tryd.ntmps43
    go_wp2_with fail
    revert FB0 E0
    generalize w.alloc (.cells #[.int .i64 W, .int .i64 H, .slice a n cap] 24) = w0
    intro FB0 E0
    have FB := Lib.hid FB0
    clear FB0
    refine (M1.out _ (h.ext E0)).mono ?_; rintro e w1 ⟨rfl, hx1⟩
    rw [decide_eq_true HM.out]
    obtain ⟨p0, p1, p2⟩ := FB.out.ext hx1
    have E1 := E0.trans hx1
    have HC : Hid (∀ (i j : Nat) w2, Ext w1 w2 → i < m → j < p → Calls Tryd.prog 78 #[.int .i64 (8 * (i : Int)), .int .i64 (8 * (j : Int)), .pointer (some ⟨w.heap.size, 0, none⟩)] w2 fun e w' => e = .returned (.tuple #[.int .i64 (innV W H zs i j), .nilIface]) ∧ Ext w2 w') :=
      fun i j w2 hx hi hj => inner1_any W H zs HM.out i j (by omega) (by omega) a n cap w.heap.size w2 (h.ext (E1.trans hx)) (FB.out.ext (hx1.trans hx))
    clear hx1
    go_wp2_with fail
    refine (sum_inner W H (.slice a n cap) m p (innV W H zs) _ _ 0 HW.out HH.out hm4 hp4 IB.out HC).mono ?_; rintro e w3 ⟨rfl, hx3⟩
    have E3 := E1.trans hx3
    clear p0 p1 p2 hx3 E1
    go_wp2
    go_ret2
    exact ⟨_, by rw [HV.out]; rfl, E3, by rw [HR.out]; rfl⟩
  · have HR : Hid (inAns W H zs = form) := by show _ = _; unfold inAns; rw [if_neg h1]
    have HV : Hid (inV W H zs = 0) := by show _ = _; unfold inV; rw [if_neg h1]
    have H1 := Lib.hid h1
    clear h1
    go_enter Tryd.func43, Tryd.ntmps43
    go_wp2_with fail
    refine (M1.out _ (h.ext E0)).mono ?_; rintro e w1 ⟨rfl, hx1⟩
    rw [decide_eq_false H1.out]
    have E1 := E0.trans hx1
    clear hx1 FB0 E0
    go_wp2
    go_ret2
    exact ⟨_, by rw [HV.out]; rfl, E1, by rw [HR.out]; exact ErrIs.code (by decide)⟩
set_option maxRecDepth 20000 in
set_option maxHeartbeats 2000000 in
theorem outer_any (W H W' H' : Int) (xs ys : List Int) (a b : Option Addr) (n m ca cb : Nat) (w : World) (ha : Ints w (.slice a n ca) xs) (hb : Ints w (.slice b m cb) ys) :
    Calls Tryd.prog 45 #[.agg #[.int .i64 W, .int .i64 H, .slice a n ca], .agg #[.int .i64 W', .int .i64 H', .slice b m cb]] w (IPost w (ouV W H xs W' H' ys) (frAns W H xs W' H' ys)) := by
  have M1 := Lib.hid (fun w h => may_any W H xs a n ca w h)
  have M2 := Lib.hid (fun w h => may_any W' H' ys b m cb w h)
  have FG0 := FrBox.two w W H W' H' (.slice a n ca) (.slice b m cb)
  obtain ⟨F0, G0⟩ := FG0
  have E0 : Ext w ((w.alloc (.cells #[.int .i64 W, .int .i64 H, .slice a n ca] 24)).alloc (.cells #[.int .i64 W', .int .i64 H', .slice b m cb] 24)) := (by repeat (first | exact Ext.refl _ | assumption | refine Ext.alloc ?_ _ | refine Ext.drew ?_ | refine Ext.drewN ?_ _ | refine Ext.setCell ?_ (by first | exact Nat.le_refl _ | (simp; done) | omega) _ | refine Ext.trans ?_ (by assumption)))
  have HV : ∀ f, frAns W H xs W' H' ys = some f → ouV W H xs W' H' ys = 0 := fun f hf => by unfold ouV; rw [hf]
  by_cases h1 : may W H xs
  · have H1 := Lib.hid h1
    by_cases h2 : may W' H' ys
    · have H2 := Lib.hid h2
      by_cases h3 : W = W'
      · by_cases h4 : H = H'
        · have hr : frAns W H xs W' H' ys = none := by unfold frAns; rw [if_pos ⟨h1, h2⟩, if_pos ⟨h3, h4⟩]
          obtain ⟨mm, p, hW, hH, hm1, hm4, hp1, hp4, e1, e2⟩ := may_sides h1
          have HV2 : Hid (ouV W H xs W' H' ys = blkF (outV W H xs W' H' ys) mm (mm * p)) := by show _ = _; unfold ouV; rw [hr, e1, e2]
          have HR := Lib.hid hr
          have IB := Lib.hid (fun i j => outV_in (W' := W') (H' := H') (ys := ys) h1 i j)
          have b3 : (W != W') = false := by simpa using h3
          have b4 : (H != H') = false := by simpa using h4
          have HW := Lib.hid hW
          have HH := Lib.hid hH
          clear h1 h2 h3 h4 e1 e2 hr HV hW hH
          go_enter Tryd.func45, Tryd.ntmps45
          go_wp2_with fail
          revert F0 G0 E0
          generalize (w.alloc (.cells #[.int .i64 W, .int .i64 H, .slice a n ca] 24)).alloc (.cells #[.int .i64 W', .int .i64 H', .slice b m cb] 24) = w0
          intro F0 G0 E0
          have FB := Lib.hid F0
          have GB := Lib.hid G0
          clear F0 G0
          refine (M1.out _ (ha.ext E0)).mono ?_; rintro e w1 ⟨rfl, hx1⟩
          rw [decide_eq_true H1.out]
          obtain ⟨q0, q1, q2⟩ := GB.out.ext hx1
          go_wp2_with fail
          refine (M2.out _ (hb.ext (E0.trans hx1))).mono ?_; rintro e w2 ⟨rfl, hx2⟩
          rw [decide_eq_true H2.out]
          clear q0 q1 q2
          have E2 := (E0.trans hx1).trans hx2
          obtain ⟨p0, p1, p2⟩ := FB.out.ext (hx1.trans hx2)
          obtain ⟨q0, q1, q2⟩ := GB.out.ext (hx1.trans hx2)
          have HC : Hid (∀ (i j : Nat) w3, Ext w2 w3 → i < mm → j < p → Calls Tryd.prog 82 #[.int .i64 (8 * (i : Int)), .int .i64 (8 * (j : Int)), .pointer (some ⟨w.heap.size, 0, none⟩), .pointer (some ⟨w.heap.size + 1, 0, none⟩)] w3 fun e w' => e = .returned (.tuple #[.int .i64 (outV W H xs W' H' ys i j), .nilIface]) ∧ Ext w3 w') :=
            fun i j w3 hx hi hj => outer1_any W H W' H' xs ys H1.out H2.out i j (by omega) (by omega) a b n m ca cb w.heap.size (w.heap.size + 1) w3 (ha.ext (E2.trans hx)) (hb.ext (E2.trans hx)) (FB.out.ext ((hx1.trans hx2).trans hx)) (GB.out.ext ((hx1.trans hx2).trans hx))
          clear hx1 hx2
          go_wp2_with fail
          refine (sum_outer W H (.slice a n ca) mm p (outV W H xs W' H' ys) _ _ _ HW.out HH.out hm4 hp4 IB.out HC).mono ?_; rintro e w3 ⟨rfl, hx3⟩
          have E3 := E2.trans hx3
          clear p0 p1 p2 q0 q1 q2 hx3 E2
          go_wp2
          go_ret2
          exact ⟨_, by rw [HV2.out]; rfl, E3, by rw [HR.out]; rfl⟩
        · have hr : frAns W H xs W' H' ys = fit := by unfold frAns; rw [if_pos ⟨h1, h2⟩, if_neg (fun e => h4 e.2)]
          have HV2 := Lib.hid (HV _ hr)
          have HR := Lib.hid hr
          have b3 : (W != W') = false := by simpa using h3
          have b4 : (H != H') = true := by simpa using h4
          clear h1 h2 h3 h4 hr HV
          go_enter Tryd.func45, Tryd.ntmps45
          go_wp2_with fail
          revert F0 G0 E0
          generalize (w.alloc (.cells #[.int .i64 W, .int .i64 H, .slice a n ca] 24)).alloc (.cells #[.int .i64 W', .int .i64 H', .slice b m cb] 24) = w0
          intro F0 G0 E0
          have FB := Lib.hid F0
          have GB := Lib.hid G0
          clear F0 G0
          refine (M1.out _ (ha.ext E0)).mono ?_; rintro e w1 ⟨rfl, hx1⟩
          rw [decide_eq_true H1.out]
          obtain ⟨q0, q1, q2⟩ := GB.out.ext hx1
          go_wp2_with fail
          refine (M2.out _ (hb.ext (E0.trans hx1))).mono ?_; rintro e w2 ⟨rfl, hx2⟩
          rw [decide_eq_true H2.out]
          clear q0 q1 q2
          have E2 := (E0.trans hx1).trans hx2
          obtain ⟨p0, p1, p2⟩ := FB.out.ext (hx1.trans hx2)
          obtain ⟨q0, q1, q2⟩ := GB.out.ext (hx1.trans hx2)
          clear hx1 hx2
          go_wp2
          go_ret2
          exact ⟨_, by rw [HV2.out]; rfl, E2, by rw [HR.out]; exact ErrIs.code (by decide)⟩
      · have hr : frAns W H xs W' H' ys = fit := by unfold frAns; rw [if_pos ⟨h1, h2⟩, if_neg (fun e => h3 e.1)]
        have HV2 := Lib.hid (HV _ hr)
        have HR := Lib.hid hr
        have b3 : (W != W') = true := by simpa using h3
        clear h1 h2 h3 hr HV
        go_enter Tryd.func45, Tryd.ntmps45
        go_wp2_with fail
        revert F0 G0 E0
        generalize (w.alloc (.cells #[.int .i64 W, .int .i64 H, .slice a n ca] 24)).alloc (.cells #[.int .i64 W', .int .i64 H', .slice b m cb] 24) = w0
        intro F0 G0 E0
        have FB := Lib.hid F0
        have GB := Lib.hid G0
        clear F0 G0
        refine (M1.out _ (ha.ext E0)).mono ?_; rintro e w1 ⟨rfl, hx1⟩
        rw [decide_eq_true H1.out]
        obtain ⟨q0, q1, q2⟩ := GB.out.ext hx1
        go_wp2_with fail
        refine (M2.out _ (hb.ext (E0.trans hx1))).mono ?_; rintro e w2 ⟨rfl, hx2⟩
        rw [decide_eq_true H2.out]
        clear q0 q1 q2
        have E2 := (E0.trans hx1).trans hx2
        obtain ⟨p0, p1, p2⟩ := FB.out.ext (hx1.trans hx2)
        obtain ⟨q0, q1, q2⟩ := GB.out.ext (hx1.trans hx2)
        clear hx1 hx2
        go_wp2
        go_ret2
        exact ⟨_, by rw [HV2.out]; rfl, E2, by rw [HR.out]; exact ErrIs.code (by decide)⟩
    · have hr : frAns W H xs W' H' ys = form := by unfold frAns; rw [if_neg (fun e => h2 e.2)]
      have HV2 := Lib.hid (HV _ hr)
      have HR := Lib.hid hr
      have H2 := Lib.hid h2
      clear h1 h2 hr HV
      go_enter Tryd.func45, Tryd.ntmps45
      go_wp2_with fail
      revert F0 G0 E0
      generalize (w.alloc (.cells #[.int .i64 W, .int .i64 H, .slice a n ca] 24)).alloc (.cells #[.int .i64 W', .int .i64 H', .slice b m cb] 24) = w0
      intro F0 G0 E0
      have FB := Lib.hid F0
      have GB := Lib.hid G0
      clear F0 G0
      refine (M1.out _ (ha.ext E0)).mono ?_; rintro e w1 ⟨rfl, hx1⟩
      rw [decide_eq_true H1.out]
      obtain ⟨q0, q1, q2⟩ := GB.out.ext hx1
      go_wp2_with fail
      refine (M2.out _ (hb.ext (E0.trans hx1))).mono ?_; rintro e w2 ⟨rfl, hx2⟩
      rw [decide_eq_false H2.out]
      have E2 := (E0.trans hx1).trans hx2
      clear q0 q1 q2 hx1 hx2
      go_wp2
      go_ret2
      exact ⟨_, by rw [HV2.out]; rfl, E2, by rw [HR.out]; exact ErrIs.code (by decide)⟩
  · have hr : frAns W H xs W' H' ys = form := by unfold frAns; rw [if_neg (fun e => h1 e.1)]
    have HV2 := Lib.hid (HV _ hr)
    have HR := Lib.hid hr
    have H1 := Lib.hid h1
    clear h1 hr HV
    go_enter Tryd.func45, Tryd.ntmps45
    go_wp2_with fail
    revert F0 G0 E0
    generalize (w.alloc (.cells #[.int .i64 W, .int .i64 H, .slice a n ca] 24)).alloc (.cells #[.int .i64 W', .int .i64 H', .slice b m cb] 24) = w0
    intro F0 G0 E0
    have FB := Lib.hid F0
    have GB := Lib.hid G0
    clear F0 G0
    refine (M1.out _ (ha.ext E0)).mono ?_; rintro e w1 ⟨rfl, hx1⟩
    rw [decide_eq_false H1.out]
    have E1 := E0.trans hx1
    clear hx1
    go_wp2
    go_ret2
    exact ⟨_, by rw [HV2.out]; rfl, E1, by rw [HR.out]; exact ErrIs.code (by decide)⟩
end Go.Proofs.YtmhbmegmlpenkaaDoor

/- An append of one int, and what it leaves of blocks of other types. -/
namespace Go.Proofs.YtmhbmegmlpenkaaDoor
set_option linter.unusedVariables false
set_option linter.unusedSimpArgs false
open Go.RowKit Go.Extern.Stop Go.Stop Go.Extern

theorem push_grow {ops : Array Oper} {rest : List Oper} {o : Oper} {a : Act} {Q : Exit → Act → World → Prop} {W : World} {base : Nat} (hgd : o.guard = none) (s y : Operand) (t : TypeId)
    (ho : o.op = .call { callee := .builtin .append, args := #[s, y], argTypes := #[t, t] }) (ht : Tryd.prog.underlying t = some (.slice 3))
    (v : Value) (n : Nat) (xs : List Value) (x : Int) (hs : a.eval s = v) (hown : W.ownsRow base 3 1 v n xs) (hx : a.eval y = .slice (some ⟨W.heap.size, 0, none⟩) 1 1) (hb : base ≤ W.heap.size) (hn : n ≤ 1000000000000)
    (h : ∀ v' w', w'.ownsRow base 3 1 v' (n + 1) (xs ++ [.int .i64 x]) → Below base W w' → W.grownBy w' v.ownBlock → wpList Tryd.prog ops Q rest (a.put o.dst v') w') :
    wpList Tryd.prog ops Q (o :: rest) a (W.alloc (.cells #[.int .i64 x] 3)) := by
  obtain ⟨i0, hi, hz0, hz1, hz2⟩ := info_parts infoInt
  refine wpList_append_own _ hgd s y t ho base 3 i0 (.int .i64 0) 1 8 ht hi hz0 hz1 hz2 rfl (by decide) v n xs hs (hown.alloc _) ⟨W.heap.size, 0, none⟩ 1 1 [.int .i64 x] hx rfl (cell_one_new _ _ _) (one_int _) (by unfold maxLen; omega) (by omega) (by simp; omega) ?_
  intro v' w' h1 h2 _
  refine h v' w' h1 (Below.grown ((Below.refl base W).alloc hb _) h2 (by simp; omega) (fun k hk => (hown.lt k hk).1)) ?_
  have g := World.grownBy_alloc W (.cells #[.int .i64 x] 3) v.ownBlock
  exact ⟨h2.os.trans g.os, h2.tape.trans g.tape, h2.output.trans g.output, Nat.le_trans g.size h2.size, fun k hk hne => (h2.block k (Nat.lt_of_lt_of_le hk g.size) hne).trans (g.block k hk hne)⟩
/-- a block known whole -/
def BoxIs (w : World) (b : Nat) (cs : Array Value) (T : TypeId) : Prop := w.heap[b]? = some (.cells cs T (0, 0))
theorem BoxIs.new (w : World) (cs : Array Value) (T : TypeId) : BoxIs (w.alloc (.cells cs T)) w.heap.size cs T := heap_alloc_new w _
theorem BoxIs.lt {w : World} {b : Nat} {cs : Array Value} {T : TypeId} (h : BoxIs w b cs T) : b < w.heap.size := (Array.getElem?_eq_some_iff.1 h).1
theorem BoxIs.ext {w w' : World} {b : Nat} {cs : Array Value} {T : TypeId} (h : BoxIs w b cs T) (k : Ext w w') : BoxIs w' b cs T := (k.block h.lt).trans h
theorem BoxIs.cell {w : World} {b i : Nat} {cs : Array Value} {T : TypeId} {v : Value} (h : BoxIs w b cs T) (hi : cs[i]? = some v) : w.cell? ⟨b, i, none⟩ = some v := by
  unfold BoxIs at h
  simp [World.cell?, h, hi]
theorem BoxIs.free {w : World} {b i : Nat} {cs : Array Value} {T : TypeId} (h : BoxIs w b cs T) : w.frozen? ⟨b, i, none⟩ = false := by
  unfold BoxIs at h
  simp [World.frozen?, h]
theorem BoxIs.apart {w : World} {b : Nat} {cs : Array Value} {T : TypeId} (h : BoxIs w b cs T) {base : Nat} {e : TypeId} {size : Nat} {v : Value} {n : Nat} {xs : List Value} (k : w.ownsRow base e size v n xs) (hT : T ≠ e) : some b ≠ v.ownBlock := by
  intro hb
  rcases k.2 with ⟨rfl, -⟩ | ⟨g, cap, cur, rfl, -, hg, -⟩
  · simp [Value.ownBlock] at hb
  · simp only [Value.ownBlock, Option.some.injEq] at hb
    subst hb
    unfold BoxIs at h
    rw [h] at hg
    simp only [Option.some.injEq, Obj.cells.injEq] at hg
    exact hT hg.2.1
theorem BoxIs.grown {w w' : World} {b : Nat} {cs : Array Value} {T : TypeId} (h : BoxIs w b cs T) {base : Nat} {e : TypeId} {size : Nat} {v : Value} {n : Nat} {xs : List Value} (k : w.ownsRow base e size v n xs) (hT : T ≠ e) (hg : w.grownBy w' v.ownBlock) : BoxIs w' b cs T :=
  (hg.block b h.lt (h.apart k hT)).trans h
end Go.Proofs.YtmhbmegmlpenkaaDoor

/- stats.weight, Weights: contracts over this seat's translation. -/
namespace Go.Proofs.YtmhbmegmlpenkaaDoor
set_option linter.unusedVariables false
set_option linter.unusedSimpArgs false
open Go.RowKit Go.Extern.Stop Go.Stop Go.Extern

set_option maxRecDepth 20000 in
set_option maxHeartbeats 2000000 in
theorem weight_true (L : List Fr) (k : Nat) (a : Option Addr) (n cap : Nat) (w : World) (h : Fms w (.slice a n cap) L) (hsm : Hid (∀ (q : Nat) (f : Fr), L[q]? = some f → f.2.2.length ≤ 1000000)) (hk : k < n) (hn : n ≤ 1000000) :
    Calls Tryd.prog 85 #[.slice a n cap, .int .i64 (k : Int), .bool true] w (IPost w (wtV L true k) (wtE L true k)) := by
  have hnl := h.len
  obtain ⟨g0, off, rfl⟩ := h.had (by omega)
  obtain ⟨f, hf⟩ : ∃ f, L[k]? = some f := ⟨_, List.getElem?_eq_getElem (by rw [← hnl]; exact hk)⟩
  have hfd : frD L k = f := by unfold frD; rw [List.getD, hf]; rfl
  obtain ⟨fa, fn, fc, p0, p1, p2, p3⟩ := h.at hf
  have HF : Hid (Ints w (.slice fa fn fc) f.2.2) := ⟨p3, Nat.le_trans (hsm.out _ _ hf) (by decide)⟩
  have HV : Hid (wtV L true k = 64 + 2 * inV f.1 f.2.1 f.2.2) := by show _ = _; unfold wtV; rw [if_pos rfl, hfd]
  have HE : Hid (wtE L true k = inAns f.1 f.2.1 f.2.2) := by show _ = _; unfold wtE; rw [if_pos rfl, hfd]
  have U := Lib.hid (inner_any f.1 f.2.1 f.2.2 fa fn fc _ HF.out)
  have b0 := inV_in f.1 f.2.1 f.2.2
  have t4 : (0 : Int) ≤ (k : Int) ∧ (k : Int) < (n : Int) := by omega
  clear p3 hf hfd hnl h HF
  revert U HV b0
  generalize inV f.1 f.2.1 f.2.2 = s
  intro HV U b0
  have i1 : IntKind.i64.wrap (2 * s) = 2 * s := by rw [IntKind.wrap_i64]; omega
  have i2 : IntKind.i64.wrap (64 + 2 * s) = 64 + 2 * s := by rw [IntKind.wrap_i64]; omega
  go_enter Tryd.func85, Tryd.ntmps85
  go_wp2_with fail
  refine (U.out).mono ?_; rintro e w1 ⟨x, rfl, hx1, he1⟩
  have HX := Lib.hid he1
  clear he1
  go_wp2
  go_ret2
  exact ⟨_, by rw [HV.out]; rfl, hx1, by rw [HE.out]; exact HX.out⟩
set_option maxRecDepth 20000 in
set_option maxHeartbeats 2000000 in
theorem weight_false (L : List Fr) (k : Nat) (a : Option Addr) (n cap : Nat) (w : World) (h : Fms w (.slice a n cap) L) (hsm : Hid (∀ (q : Nat) (f : Fr), L[q]? = some f → f.2.2.length ≤ 1000000)) (hk : k < n) (hn : n ≤ 1000000) (h1 : 1 ≤ k) :
    Calls Tryd.prog 85 #[.slice a n cap, .int .i64 (k : Int), .bool false] w (IPost w (wtV L false k) (wtE L false k)) := by
  have hnl := h.len
  obtain ⟨g0, off, rfl⟩ := h.had (by omega)
  obtain ⟨f, hf⟩ : ∃ f, L[k]? = some f := ⟨_, List.getElem?_eq_getElem (by rw [← hnl]; exact hk)⟩
  have hfd : frD L k = f := by unfold frD; rw [List.getD, hf]; rfl
  obtain ⟨fa, fn, fc, p0, p1, p2, p3⟩ := h.at hf
  have HF : Hid (Ints w (.slice fa fn fc) f.2.2) := ⟨p3, Nat.le_trans (hsm.out _ _ hf) (by decide)⟩
  obtain ⟨p, hp⟩ : ∃ p, L[k - 1]? = some p := ⟨_, List.getElem?_eq_getElem (by rw [← hnl]; omega)⟩
  have hpd : frD L (k - 1) = p := by unfold frD; rw [List.getD, hp]; rfl
  obtain ⟨pa, pn, pc, q0, q1, q2, q3⟩ := h.at hp
  have HP : Hid (Ints w (.slice pa pn pc) p.2.2) := ⟨q3, Nat.le_trans (hsm.out _ _ hp) (by decide)⟩
  have HV : Hid (wtV L false k = 64 + ouV f.1 f.2.1 f.2.2 p.1 p.2.1 p.2.2) := by show _ = _; unfold wtV; rw [if_neg (by decide), hfd, hpd]
  have HE : Hid (wtE L false k = frAns f.1 f.2.1 f.2.2 p.1 p.2.1 p.2.2) := by show _ = _; unfold wtE; rw [if_neg (by decide), hfd, hpd]
  have U := Lib.hid (fun w h k => outer_any f.1 f.2.1 p.1 p.2.1 f.2.2 p.2.2 fa pa fn pn fc pc w h k)
  have b0 := ouV_in f.1 f.2.1 f.2.2 p.1 p.2.1 p.2.2
  obtain ⟨P, hP⟩ : ∃ P, P = k - 1 := ⟨_, rfl⟩
  have t2 : IntKind.i64.wrap ((k : Int) - 1) = (P : Int) := by rw [IntKind.wrap_i64]; omega
  have t3 : (0 : Int) ≤ (P : Int) ∧ (P : Int) < (n : Int) := by omega
  have t4 : (0 : Int) ≤ (k : Int) ∧ (k : Int) < (n : Int) := by omega
  rw [← hP] at q0 q1 q2
  clear hP p3 q3 hf hp hfd hpd hnl h
  revert U HV b0
  generalize ouV f.1 f.2.1 f.2.2 p.1 p.2.1 p.2.2 = s
  intro HV U b0
  have i2 : IntKind.i64.wrap (64 + s) = 64 + s := by rw [IntKind.wrap_i64]; omega
  go_enter Tryd.func85, Tryd.ntmps85
  go_wp2_with fail
  go_region_held3 (fun w' => w'.cell? ⟨g0, off + k * 3, none⟩ = some (.int .i64 f.1) ∧ w'.cell? ⟨g0, off + k * 3 + 1, none⟩ = some (.int .i64 f.2.1) ∧ w'.cell? ⟨g0, off + k * 3 + 2, none⟩ = some (.slice fa fn fc) ∧ w'.cell? ⟨g0, off + P * 3, none⟩ = some (.int .i64 p.1) ∧ w'.cell? ⟨g0, off + P * 3 + 1, none⟩ = some (.int .i64 p.2.1) ∧ w'.cell? ⟨g0, off + P * 3 + 2, none⟩ = some (.slice pa pn pc) ∧ Ext w w')
    (first | assumption | (exact ⟨p0, p1, p2, q0, q1, q2, Ext.refl _⟩) | (exact ⟨p0, p1, p2, q0, q1, q2, (Ext.refl _).drew⟩) | (go_split_ands; exact ⟨hx.cell (by assumption), hx.cell (by assumption), hx.cell (by assumption), hx.cell (by assumption), hx.cell (by assumption), hx.cell (by assumption), Ext.trans (by assumption) hx⟩))
    ((go_at_call 45; obtain ⟨_, _, _, _, _, _, hE1⟩ : _ ∧ _ ∧ _ ∧ _ ∧ _ ∧ _ ∧ Ext w _ := (by assumption); refine (U.out _ (HF.out.ext hE1) (HP.out.ext hE1)).mono ?_; rintro e w' ⟨x5, rfl, hx, hex⟩))
  obtain ⟨_, _, _, _, _, _, hE1⟩ : _ ∧ _ ∧ _ ∧ _ ∧ _ ∧ _ ∧ Ext w _ := by assumption
  have HX := Lib.hid hex
  clear hex p0 p1 p2 q0 q1 q2
  go_wp2
  go_ret2
  exact ⟨_, by rw [HV.out]; rfl, hE1, by rw [HE.out]; exact HX.out⟩
theorem weight_any (L : List Fr) (k : Nat) (b : Bool) (a : Option Addr) (n cap : Nat) (w : World) (h : Fms w (.slice a n cap) L) (hsm : Hid (∀ (q : Nat) (f : Fr), L[q]? = some f → f.2.2.length ≤ 1000000)) (hk : k < n) (hn : n ≤ 1000000) (h1 : b = false → 1 ≤ k) :
    Calls Tryd.prog 85 #[.slice a n cap, .int .i64 (k : Int), .bool b] w (IPost w (wtV L b k) (wtE L b k)) := by
  cases b with
  | true => exact weight_true L k a n cap w h hsm hk hn
  | false => exact weight_false L k a n cap w h hsm hk hn (h1 rfl)
set_option maxRecDepth 20000 in
set_option maxHeartbeats 8000000 in
theorem weights_any (L : List Fr) (G : List (Int × Int)) (v u : Value) (w : World) (h : Fms w v L) (hr : Row w u G.length (gcells G)) (hsm : Hid (∀ (q : Nat) (f : Fr), L[q]? = some f → f.2.2.length ≤ 1000000)) (hl : L.length ≤ 1000000) (hg : G.length ≤ 1000000) :
    Calls Tryd.prog 47 #[v, u] w (ZPost w (wtL L G) (wtAns L G)) := by
  obtain ⟨a, cap, rfl⟩ := h.form
  obtain ⟨b, cap', rfl⟩ := hr.form
  obtain ⟨n, hn⟩ : ∃ n, n = L.length := ⟨_, rfl⟩
  obtain ⟨gn, hgn⟩ : ∃ gn, gn = G.length := ⟨_, rfl⟩
  have C0 := Lib.hid (covers_any G L.length (.slice b G.length cap') w hr hg hl)
  rw [← hn] at C0 h hl ⊢
  rw [← hgn] at C0 hr hg ⊢
  have HN := Lib.hid hn
  have HGN := Lib.hid hgn
  have HF := Lib.hid h
  have HRG := Lib.hid hr
  clear h hr hn hgn
  cases hc : covB n G with
  | false =>
    have HA : Hid (wtAns L G = range) := by show _ = _; unfold wtAns; rw [← HN.out, hc]; rfl
    have HV : Hid (wtL L G = []) := by show _ = _; unfold wtL; rw [HA.out]; rfl
    rw [hc] at C0
    clear hc
    go_enter Tryd.func47, Tryd.ntmps47
    go_wp2_with fail
    refine (C0.out).mono ?_; rintro e w1 ⟨rfl, hx1⟩
    go_wp2
    go_ret2
    exact ⟨_, _, rfl, hx1, by rw [HV.out]; exact Ints.nil _, by rw [HA.out]; exact ErrIs.code (by decide)⟩
  | true =>
    have HA : Hid (wtAns L G = wtF L (begB G) n) := by show _ = _; unfold wtAns; rw [← HN.out, hc]; rfl
    rw [hc] at C0
    unfold covB at hc
    simp only [Bool.and_eq_true, decide_eq_true_eq] at hc
    obtain ⟨⟨n1, n2⟩, hcs⟩ := hc
    have HCS := Lib.hid hcs
    clear hcs
    go_enter Tryd.func47, Tryd.ntmps47
    go_wp2_with fail
    refine (C0.out).mono ?_; rintro e w1 ⟨rfl, hx1⟩
    go_wp2
    go_loopw [6, 20] (fun sv qv wr => ∃ (q k : Nat), q ≤ gn ∧ qv = .int .i64 q ∧ k ≤ n ∧ Hid (wr.ownsRow w.heap.size 3 1 sv k ((rowL k fun k => wtV L (begB G k) k).map (Value.int .i64))) ∧ Hid (wtF L (begB G) k = none ∧ (∀ r ∈ G.take q, r.1 < (k : Int)) ∧ covS (n : Int) (G.drop q) (k : Int) = true) ∧ Ext w wr) (fun _ qv _ => gn - (intOf qv).toNat)
    case atStart => exact ⟨0, 0, Nat.zero_le _, rfl, Nat.zero_le _, World.ownsRow_nil _ _ _ _, ⟨rfl, (fun r hr => by cases hr), HCS.out⟩, hx1⟩
    case round =>
      clear hx1 C0
      obtain ⟨q, k, hq, rfl, hk, HO, HK, hE⟩ := hrel
      by_cases hlt : q < gn
      · obtain ⟨p, hp⟩ : ∃ p, G[q]? = some p := ⟨_, List.getElem?_eq_getElem (by rw [← HGN.out]; exact hlt)⟩
        obtain ⟨F, C⟩ := p
        obtain ⟨z1, z2, z3, z4, z5⟩ := take_lt hp HK.out.2.2 HK.out.2.1
        have z6 := Lib.hid (fun (i : Nat) (a1 : (k : Int) ≤ (i : Int)) (a2 : (i : Int) < (k : Int) + C) => (begB_at (k := i) hp HK.out.2.2 HK.out.2.1 a1 a2).1)
        simp only at z1 z2 z3 z4 z5 z6
        obtain ⟨c, hcc⟩ : ∃ c : Nat, C = (c : Int) := ⟨C.toNat, by omega⟩
        subst hcc
        subst z3
        have HZ : Hid ((∀ r ∈ G.take (q + 1), r.1 < (k : Int) + (c : Int)) ∧ covS (n : Int) (G.drop (q + 1)) ((k : Int) + (c : Int)) = true) := ⟨z1, z2⟩
        obtain ⟨g, goff, gcp, e, -, -⟩ := (show Row w (.slice b gn cap') gn (gcells G) from HRG.out).some (by omega)
        simp only [Value.slice.injEq] at e
        obtain ⟨rfl, -, rfl⟩ := e
        have gc := gcells_get G q ((k : Int), (c : Int)) hp
        have c0 := hE.cell (HRG.out.at gc.1)
        have c1 := hE.cell (HRG.out.at gc.2)
        change wr.cell? ⟨g, goff + q * 2 + 1, none⟩ = some (.int .i64 (c : Int)) at c1
        have t4 : (0 : Int) ≤ (q : Int) ∧ (q : Int) < (gn : Int) := by omega
        have i1 : IntKind.i64.wrap ((k : Int) + (c : Int)) = (k : Int) + (c : Int) := by rw [IntKind.wrap_i64]; omega
        have HWF := Lib.hid HK.out.1
        have EB : Ext w (wr.alloc (.cells #[.int .i64 (k : Int), .int .i64 (c : Int)] 69)) := hE.alloc _
        have HO1 := Lib.hid (own_ext HO.out ((Ext.refl wr).alloc (.cells #[.int .i64 (k : Int), .int .i64 (c : Int)] 69)))
        have BX := Lib.hid (BoxIs.new wr #[.int .i64 (k : Int), .int .i64 (c : Int)] 69)
        have PZ := BX.out.cell (i := 0) (v := .int .i64 (k : Int)) rfl
        clear gc hp z1 z2 HK HO hE
        go_wp2_with fail
        clear c0 c1
        obtain ⟨B, hB⟩ : ∃ B, B = wr.heap.size := ⟨_, rfl⟩
        rw [← hB] at BX ⊢
        clear hB PZ
        revert EB HO1 BX
        generalize wr.alloc (.cells #[.int .i64 (k : Int), .int .i64 (c : Int)] 69) = wb
        intro EB HO1 BX
        go_loopw [6, 9] (fun sv iv wz => ∃ i : Nat, k ≤ i ∧ i ≤ k + c ∧ iv = .int .i64 (i : Int) ∧ Hid (wz.ownsRow w.heap.size 3 1 sv i ((rowL i fun k => wtV L (begB G k) k).map (Value.int .i64))) ∧ Hid (wtF L (begB G) i = none) ∧ Ext w wz ∧ Hid (BoxIs wz B #[.int .i64 (k : Int), .int .i64 (c : Int)] 69)) (fun _ iv _ => k + c - (intOf iv).toNat)
        case atStart => exact ⟨k, Nat.le_refl _, Nat.le_add_right _ _, rfl, HO1.out, HWF.out, EB, BX.out⟩
        case round =>
          clear EB HO1 BX HWF
          obtain ⟨i, hi1, hi2, rfl, HO, HWF, hE, BX⟩ := hrel
          have p0 := BX.out.cell (i := 0) (v := .int .i64 (k : Int)) rfl
          have p1 := BX.out.cell (i := 1) (v := .int .i64 (c : Int)) rfl
          by_cases hil : i < k + c
          · have hin : i < n := by omega
            have t5 : (i : Int) < (k : Int) + (c : Int) := by omega
            have hbb0 := z6.out i (by omega) (by omega)
            obtain ⟨bb, hb2⟩ : ∃ bb, bb = begB G i := ⟨_, rfl⟩
            have HBB := Lib.hid hb2
            rw [← hb2] at hbb0
            have hbb := hbb0.symm
            clear hbb0
            have U := Lib.hid (fun w h => weight_any L i bb a n cap w h hsm hin hl (fun e => by
              rw [e] at hbb
              have : ¬ (i : Int) = (k : Int) := by simpa using hbb
              omega))
            have bw := wtV_in L bb i
            have HS : Hid ((rowL (i + 1) (fun k => wtV L (begB G k) k)).map (Value.int .i64) = (rowL i (fun k => wtV L (begB G k) k)).map (Value.int .i64) ++ [.int .i64 (wtV L bb i)]) := by show _ = _; rw [rowL_sn, HBB.out]
            clear hb2
            go_wp2_with fail
            refine (U.out _ (HF.out.ext hE)).mono ?_; rintro e w5 ⟨x5, rfl, hx5, he5⟩
            have E5 := hE.trans hx5
            have BX5 := Lib.hid (BX.out.ext hx5)
            have HO5 := Lib.hid (own_ext HO.out hx5)
            have B5 := E5.size
            clear p0 p1 BX HO hE hx5 U
            cases hw : wtE L bb i with
            | some f =>
              obtain ⟨pe, cd⟩ := f
              obtain ⟨hpe, hcd⟩ := wtE_path hw
              simp only at hpe hcd
              subst hpe
              rw [hw] at he5
              obtain ⟨t9, y9, rfl⟩ := he5.ne
              have HR : Hid (wtAns L G = some ((stt, (i : Int)) :: [], cd)) := HA.out.trans (wtF_at HWF.out (by rw [← HBB.out]; exact hw) hin)
              have HV : Hid (wtL L G = []) := by show _ = _; unfold wtL; rw [HR.out]
              have HX := Lib.hid he5
              clear hw he5 hbb hcd
              go_wp2_with fail
              refine (in_err stt (i : Int) [] cd _ _ HX.out.1).mono ?_; rintro e w6 ⟨u6, rfl, hx6, he6⟩
              go_wp2
              go_ret2
              exact ⟨_, _, rfl, E5.trans hx6, by rw [HV.out]; exact Ints.nil _, by rw [HR.out]; exact ⟨he6, HX.out.2.1, by simp⟩⟩
            | none =>
              rw [hw] at he5
              obtain rfl : x5 = .nilIface := he5
              have HWN := Lib.hid (wtF_next HWF.out (by rw [← HBB.out]; exact hw))
              clear hw hbb
              revert bw HS
              generalize wtV L bb i = x
              intro bw HS
              go_wp2_with (at_builtin; refine push_grow rfl _ _ 22 rfl Tryd.underlying22 _ i _ _ rfl HO5.out (by show Value.slice (some ⟨w5.heap.size, 0, none⟩) 1 1 = _; simp) B5 (by omega) ?_; intro v' w7 h1 h2 h3)
              have E7 : Ext w w7 := E5.of_below h2 (Nat.le_refl _)
              have HO7 := Lib.hid h1
              have BX7 := Lib.hid (BX5.out.grown HO5.out (by decide) h3)
              clear h1 h2 h3
              go_wp2
              go_roundw
              case rel => exact ⟨i + 1, by omega, by omega, by go_num, by
                show World.ownsRow _ _ _ _ _ _ _
                rw [HS.out]
                exact HO7.out, HWN.out, E7, BX7.out⟩
              case measure => simp [intOf]; omega
          · obtain rfl : i = k + c := by omega
            have t5 : ¬ ((k + c : Nat) : Int) < (k : Int) + (c : Int) := by omega
            have t6 : ((k + c : Nat) : Int) = (k : Int) + (c : Int) := by omega
            go_wp2
            go_roundw
            case rel => exact ⟨q + 1, k + c, by omega, by go_num, by omega, HO.out, ⟨HWF.out, by rw [t6]; exact HZ.out.1, by rw [t6]; exact HZ.out.2⟩, hE⟩
            case measure => simp [intOf]; omega
      · have hk2 : k = n := by
          have := HK.out.2.2
          rw [covS_end (by rw [← HGN.out]; omega)] at this
          have := of_decide_eq_true this
          omega
        have HR : Hid (wtAns L G = none) := by show _ = _; rw [HA.out, ← hk2]; exact HK.out.1
        have HV : Hid (wtL L G = rowL k fun k => wtV L (begB G k) k) := by show _ = _; unfold wtL; rw [HR.out, ← HN.out, hk2]
        have hkn : ¬ (q : Int) < (gn : Int) := by omega
        clear hlt hk2
        go_wp2
        go_ret2
        exact ⟨_, _, rfl, hE, by rw [HV.out]; exact Ints.of_row HO.out (by omega), by rw [HR.out]; rfl⟩
end Go.Proofs.YtmhbmegmlpenkaaDoor

/- kinref16.Inner, Outer: contracts over this seat's translation. -/
namespace Go.Proofs.YtmhbmegmlpenkaaDoor
set_option linter.unusedVariables false
set_option linter.unusedSimpArgs false
open Go.RowKit Go.Extern.Stop Go.Stop Go.Extern

theorem area64 {W H : Int} {m p : Nat} (hW : W = 8 * (m : Int)) (hH : H = 8 * (p : Int)) : W * H = 64 * ((m * p : Nat) : Int) := by
  rw [hW, hH]
  push_cast
  rw [Int.mul_assoc 8 (m : Int), Int.mul_left_comm (m : Int) 8, ← Int.mul_assoc 8 8]
  rfl
theorem inner_loc {m p k : Nat} (hm : 1 ≤ m) (hk : k < m * p) : k % m < m ∧ k / m < p := ⟨Nat.mod_lt _ (by omega), Nat.div_lt_of_lt_mul hk⟩
set_option maxRecDepth 20000 in
set_option maxHeartbeats 4000000 in
theorem rinner_any (W H : Int) (zs : List Int) (a : Option Addr) (n cap : Nat) (w : World) (h : Ints w (.slice a n cap) zs) :
    Calls Tryd.prog 44 #[.agg #[.int .i64 W, .int .i64 H, .slice a n cap]] w (RIPost w (inV W H zs) (inAns W H zs)) := by
  have M1 := Lib.hid (fun w h => rmay_any W H zs a n cap w h)
  have F0 := (FrBox.new w W H (.slice a n cap)).ext ((Ext.refl _).alloc (.cells #[.int .i64 0, .slice none 0 0] 41))
  have E0 : Ext w ((w.alloc (.cells #[.int .i64 W, .int .i64 H, .slice a n cap] 24)).alloc (.cells #[.int .i64 0, .slice none 0 0] 41)) := (by repeat (first | exact Ext.refl _ | assumption | refine Ext.alloc ?_ _ | refine Ext.drew ?_ | refine Ext.drewN ?_ _ | refine Ext.setCell ?_ (by first | exact Nat.le_refl _ | (simp; done) | omega) _ | refine Ext.trans ?_ (by assumption)))
  have R0 : ResAt ((w.alloc (.cells #[.int .i64 W, .int .i64 H, .slice a n cap] 24)).alloc (.cells #[.int .i64 0, .slice none 0 0] 41)) (w.heap.size + 1) := by
    have := ResAt.new (w.alloc (.cells #[.int .i64 W, .int .i64 H, .slice a n cap] 24))
    simpa using this
  by_cases h1 : may W H zs
  · have HR : Hid (inAns W H zs = none) := by show _ = _; unfold inAns; rw [if_pos h1]
    obtain ⟨m, p, hW, hH, hm1, hm4, hp1, hp4, g1, g2⟩ := may_sides h1
    have HV : Hid (inV W H zs = blkF (innV W H zs) m (m * p)) := by show _ = _; unfold inV; rw [if_pos h1, g1, g2]
    have HM := Lib.hid h1
    have IB := Lib.hid (fun i j => innV_in h1 i j)
    clear h1 g1 g2
    obtain ⟨A, hA⟩ : ∃ A, A = W * H := ⟨_, rfl⟩
    obtain ⟨M, hM⟩ : ∃ M, M = m * p := ⟨_, rfl⟩
    have hMle : M ≤ 16 := by rw [hM]; exact Nat.mul_le_mul hm4 hp4
    have hAM : A = 64 * (M : Int) := by rw [hA, hM]; exact area64 hW hH
    have d1 : IntKind.i64.wrap (W * H) = A := by rw [IntKind.wrap_i64, ← hA]; omega
    have d2 : A / 64 = (M : Int) := by omega
    have d3 : Int.tdiv A 64 = (M : Int) := by rw [Int.tdiv_eq_ediv_of_nonneg (by omega)]; exact d2
    have d4 : IntKind.i64.wrap (M : Int) = (M : Int) := by rw [IntKind.wrap_i64]; omega
    have dA : 0 ≤ A ∧ A ≤ 1024 := by omega
    have HMM := Lib.hid hM
    clear hA hAM
    have HW := Lib.hid hW
    clear hW hH hM
    go_enter Tryd.func44, Tryd.ntmps44
    go_wp2_with fail
    revert F0 E0 R0
    generalize (w.alloc (.cells #[.int .i64 W, .int .i64 H, .slice a n cap] 24)).alloc (.cells #[.int .i64 0, .slice none 0 0] 41) = w0
    intro F0 E0 R0
    have FB := Lib.hid F0
    have RB := Lib.hid R0
    clear F0 R0
    refine (M1.out _ (h.ext E0)).mono ?_; rintro e w1 ⟨rfl, hx1⟩
    rw [decide_eq_true HM.out]
    have FC := Lib.hid (FB.out.ext hx1)
    have RC := Lib.hid (RB.out.ext hx1)
    have E1 := E0.trans hx1
    clear hx1 E0 FB RB
    go_wp2_with fail
    go_loopw [4, 5] (fun sv kv wr => ∃ k : Nat, k ≤ M ∧ kv = .int .i64 k ∧ sv = .int .i64 (blkF (innV W H zs) m k) ∧ Ext w1 wr) (fun _ kv _ => M - (intOf kv).toNat)
    case atStart => exact ⟨0, Nat.zero_le _, rfl, rfl, Ext.refl _⟩
    case round =>
      obtain ⟨k, hk, rfl, rfl, hE⟩ := hrel
      obtain ⟨p0, p1, p2⟩ := FC.out.ext hE
      by_cases hlt : k < M
      · have hW := HW.out
        obtain ⟨l1, l2⟩ := inner_loc (m := m) (p := p) hm1 (by rw [← HMM.out]; exact hlt)
        obtain ⟨i, hi⟩ : ∃ i, i = k % m := ⟨_, rfl⟩
        obtain ⟨j, hj⟩ : ∃ j, j = k / m := ⟨_, rfl⟩
        have q1 : Int.tdiv W 8 = (m : Int) := by rw [hW, Int.tdiv_eq_ediv_of_nonneg (by omega)]; omega
        have q2 : Int.tmod (k : Int) (m : Int) = (i : Int) := by rw [hi]; exact Int.ofNat_tmod k m
        have q2' : (k : Int) % (m : Int) = (i : Int) := by rw [hi]; exact Int.natCast_emod k m
        have q4 : Int.tdiv (k : Int) (m : Int) = (j : Int) := by rw [hj]; exact Int.ofNat_tdiv k m
        have q4' : (k : Int) / (m : Int) = (j : Int) := by rw [hj]; exact Int.natCast_ediv k m
        rw [← hi] at l1
        rw [← hj] at l2
        have q3 : IntKind.i64.wrap ((i : Int) * 8) = 8 * (i : Int) := by rw [IntKind.wrap_i64]; omega
        have q5 : IntKind.i64.wrap ((j : Int) * 8) = 8 * (j : Int) := by rw [IntKind.wrap_i64]; omega
        have q6 : ¬ m = 0 := by omega
        have q7 : IntKind.i64.wrap (m : Int) = (m : Int) := by rw [IntKind.wrap_i64]; omega
        have q8 : IntKind.i64.wrap (i : Int) = (i : Int) := by rw [IntKind.wrap_i64]; omega
        have q9 : IntKind.i64.wrap (j : Int) = (j : Int) := by rw [IntKind.wrap_i64]; omega
        have HS : Hid (blkF (innV W H zs) m (k + 1) = blkF (innV W H zs) m k + innV W H zs i j) := by show _ = _; rw [hi, hj]; rfl
        have b0 := blkF_bound IB.out m k
        have b1 := IB.out i j
        have HX : Hid (innV W H zs i j = actF (sqF W H zs i j)) := rfl
        have G := Lib.hid (fun w h => rget8 W H i j (by omega) (by omega) zs a n cap w h HM.out)
        have I := Lib.hid (inside_any _ (sqF_in HM.out i j))
        rw [HX.out] at b1 HS
        clear hi hj HX hW
        revert b0 b1 HS I
        generalize blkF (innV W H zs) m k = s
        generalize actF (sqF W H zs i j) = x
        intro HS b0 b1 I
        have q10 : IntKind.i64.wrap (s + x) = s + x := by rw [IntKind.wrap_i64]; omega
        have HA := Lib.hid (h.ext (E1.trans hE))
        go_wp2_with fail
        go_region_held3 (fun w' => w'.cell? ⟨w.heap.size, 0, none⟩ = some (.int .i64 W) ∧ w'.cell? ⟨w.heap.size, 1, none⟩ = some (.int .i64 H) ∧ w'.cell? ⟨w.heap.size, 2, none⟩ = some (.slice a n cap) ∧ Ext wr w')
          (first | assumption | (exact ⟨p0, p1, p2, Ext.refl _⟩) | (exact ⟨p0, p1, p2, (Ext.refl _).drew⟩) | (go_split_ands; exact ⟨hx.cell (by assumption), hx.cell (by assumption), hx.cell (by assumption), Ext.trans (by assumption) hx⟩))
          ((first | (go_at_call 81; obtain ⟨_, _, _, hE1⟩ : _ ∧ _ ∧ _ ∧ Ext wr _ := (by assumption); refine (G.out _ (HA.out.ext hE1)).mono ?_; rintro e w' ⟨u, rfl, hx, hu⟩) | (go_at_call 80; refine (I.out _ _ (by first | assumption | exact Ints.ext hu (by first | assumption | exact (Ext.refl _).drew))).mono ?_; rintro e w' ⟨rfl, hx⟩)))
        obtain ⟨_, _, _, hE1⟩ : _ ∧ _ ∧ _ ∧ Ext wr _ := by assumption
        have hE2 := hE.trans hE1
        clear p0 p1 p2 hE
        go_wp2
        go_roundw
        case rel => exact ⟨k + 1, by omega, by go_num, by rw [HS.out], hE2⟩
        case measure => simp [intOf]; omega
      · obtain rfl : k = M := by omega
        have HS : Hid (blkF (innV W H zs) m k = inV W H zs) := by show _ = _; rw [HV.out, HMM.out]
        obtain ⟨r0, r1, f0, f1⟩ := RC.out.ext hE
        have E2 := E1.trans hE
        clear hE
        go_wp2
        obtain ⟨e0, e1⟩ := res_cells (c := 0) r0 r1 (.slice none 0 0)
        exact bodyPost_ret (v := .tuple #[.int .i64 (blkF (innV W H zs) m k), .agg #[.int .i64 0, .slice none 0 0]]) (by simp [results, Tryd.results44, go_sem, e0, e1]) rfl ⟨_, _, _, _, by rw [HS.out], (E2.setCell (p := ⟨w.heap.size + 1, 0, none⟩) (Nat.le_add_right _ 1) _).setCell (p := ⟨w.heap.size + 1, 1, none⟩) (Nat.le_add_right _ 1) _, by rw [HR.out]; exact RErrIs.zero⟩
  · have HR : Hid (inAns W H zs = form) := by show _ = _; unfold inAns; rw [if_neg h1]
    have HV : Hid (inV W H zs = 0) := by show _ = _; unfold inV; rw [if_neg h1]
    have H1 := Lib.hid h1
    clear h1
    go_enter Tryd.func44, Tryd.ntmps44
    go_wp2_with fail
    revert F0 E0 R0
    generalize (w.alloc (.cells #[.int .i64 W, .int .i64 H, .slice a n cap] 24)).alloc (.cells #[.int .i64 0, .slice none 0 0] 41) = w0
    intro F0 E0 R0
    have RB := Lib.hid R0
    clear F0 R0
    refine (M1.out _ (h.ext E0)).mono ?_; rintro e w1 ⟨rfl, hx1⟩
    rw [decide_eq_false H1.out]
    go_wp2_with fail
    refine (fail_any 2 _).mono ?_; rintro e w2 ⟨rfl, hx2⟩
    have E2 := (E0.trans hx1).trans hx2
    obtain ⟨r0, r1, f0, f1⟩ := RB.out.ext (hx1.trans hx2)
    clear hx1 hx2 E0
    go_wp2
    obtain ⟨e0, e1⟩ := res_cells (c := 2) r0 r1 (.slice none 0 0)
    exact bodyPost_ret (v := .tuple #[.int .i64 0, .agg #[.int .i64 2, .slice none 0 0]]) (by simp [results, Tryd.results44, go_sem, e0, e1]) rfl ⟨_, _, _, _, by rw [HV.out], (E2.setCell (p := ⟨w.heap.size + 1, 0, none⟩) (Nat.le_add_right _ 1) _).setCell (p := ⟨w.heap.size + 1, 1, none⟩) (Nat.le_add_right _ 1) _, by rw [HR.out]; exact RErrIs.code (by decide)⟩
end Go.Proofs.YtmhbmegmlpenkaaDoor

/- kinref16.Outer: its contract over this seat's translation. -/
namespace Go.Proofs.YtmhbmegmlpenkaaDoor
set_option linter.unusedVariables false
set_option linter.unusedSimpArgs false
open Go.RowKit Go.Extern.Stop Go.Stop Go.Extern

theorem rsad_rows {f g : Nat → Int} (hf : ∀ j, 0 ≤ f j ∧ f j ≤ 255) (hg : ∀ j, 0 ≤ g j ∧ g j ≤ 255) (v u : Value) (w : World) (ha : Ints w v (rowL 64 f)) (hb : Ints w u (rowL 64 g)) :
    Calls Tryd.prog 59 #[v, u] w fun e w' => e = .returned (.tuple #[.int .i64 (sadF f g 64), .agg #[.int .i64 0, .slice none 0 0]]) ∧ Ext w w' := by
  have h := rsad_any _ _ v u w ha hb (by rw [rowL_length]; decide)
  rw [(sad_rows hf hg).1, (sad_rows hf hg).2] at h
  refine h.mono ?_
  rintro e w' ⟨c, a, m, k, rfl, hx, rfl, he⟩
  rw [he]
  exact ⟨rfl, hx⟩
set_option maxRecDepth 20000 in
set_option maxHeartbeats 8000000 in
theorem router_any (W H W' H' : Int) (xs ys : List Int) (a b : Option Addr) (n m ca cb : Nat) (w : World) (ha : Ints w (.slice a n ca) xs) (hb : Ints w (.slice b m cb) ys) :
    Calls Tryd.prog 46 #[.agg #[.int .i64 W, .int .i64 H, .slice a n ca], .agg #[.int .i64 W', .int .i64 H', .slice b m cb]] w (RIPost w (ouV W H xs W' H' ys) (frAns W H xs W' H' ys)) := by
  have M := Lib.hid (fun w h k => rsum_any W H W' H' xs ys a b n m ca cb w h k)
  cases hm : frAns W H xs W' H' ys with
  | some f =>
    have HV : Hid (ouV W H xs W' H' ys = 0) := by show _ = _; unfold ouV; rw [hm]
    rw [hm] at M
    have HPF := Lib.hid (frAns_path hm)
    clear hm
    have FG0 := FrBox.two w W H W' H' (.slice a n ca) (.slice b m cb)
    have RV : ResAt (((w.alloc (.cells #[.int .i64 W, .int .i64 H, .slice a n ca] 24)).alloc (.cells #[.int .i64 W', .int .i64 H', .slice b m cb] 24)).alloc (.cells #[.int .i64 0, .slice none 0 0] 41)) (w.heap.size + 2) := by
      have := ResAt.new ((w.alloc (.cells #[.int .i64 W, .int .i64 H, .slice a n ca] 24)).alloc (.cells #[.int .i64 W', .int .i64 H', .slice b m cb] 24))
      simpa using this
    have FB := FG0.1.ext ((Ext.refl _).alloc (.cells #[.int .i64 0, .slice none 0 0] 41))
    have GB := FG0.2.ext ((Ext.refl _).alloc (.cells #[.int .i64 0, .slice none 0 0] 41))
    clear FG0
    have EB : Ext w (((w.alloc (.cells #[.int .i64 W, .int .i64 H, .slice a n ca] 24)).alloc (.cells #[.int .i64 W', .int .i64 H', .slice b m cb] 24)).alloc (.cells #[.int .i64 0, .slice none 0 0] 41)) := (by repeat (first | exact Ext.refl _ | assumption | refine Ext.alloc ?_ _ | refine Ext.drew ?_ | refine Ext.drewN ?_ _ | refine Ext.setCell ?_ (by first | exact Nat.le_refl _ | (simp; done) | omega) _ | refine Ext.trans ?_ (by assumption)))
    go_enter Tryd.func46, Tryd.ntmps46
    go_wp2_with fail
    revert RV FB GB EB
    generalize ((w.alloc (.cells #[.int .i64 W, .int .i64 H, .slice a n ca] 24)).alloc (.cells #[.int .i64 W', .int .i64 H', .slice b m cb] 24)).alloc (.cells #[.int .i64 0, .slice none 0 0] 41) = w0
    intro RV FB GB EB
    have FH := Lib.hid FB
    have GH := Lib.hid GB
    have RH := Lib.hid RV
    clear RV FB GB
    refine (M.out _ (ha.ext EB) (hb.ext EB)).mono ?_; rintro e w1 ⟨c, d, i, j, rfl, hx1, hr1⟩
    have A1 : Ext w1 (w1.alloc (.cells #[.int .i64 c, .slice d i j] 41)) := (Ext.refl w1).alloc _
    have E1 : Ext w (w1.alloc (.cells #[.int .i64 c, .slice d i j] 41)) := EB.trans (hx1.trans A1)
    have FH := Lib.hid ((FH.out.ext hx1).ext A1)
    have GH := Lib.hid ((GH.out.ext hx1).ext A1)
    have RH := Lib.hid ((RH.out.ext hx1).ext A1)
    have s0 : (w1.alloc (.cells #[.int .i64 c, .slice d i j] 41)).cell? ⟨w1.heap.size, 0, none⟩ = some (.int .i64 c) := by simp
    have s1 : (w1.alloc (.cells #[.int .i64 c, .slice d i j] 41)).cell? ⟨w1.heap.size, 1, none⟩ = some (.slice d i j) := by simp
    have hr1 := hr1.ext A1
    clear EB hx1 A1
    go_wp2_with fail
    revert E1 FH GH RH s0 s1 hr1
    generalize w1.alloc (.cells #[.int .i64 c, .slice d i j] 41) = wS
    intro E1 FH GH RH s0 s1 hr1
    refine (ok_any c _ _).mono ?_; rintro e wA ⟨rfl, hxA⟩
    have t0 := hxA.cell s0
    have t1 := hxA.cell s1
    have RA := Lib.hid (RH.out.ext hxA)
    have FA := Lib.hid (FH.out.ext hxA)
    have GA := Lib.hid (GH.out.ext hxA)
    have E9 : Ext w wA := E1.trans hxA
    have hr9 := hr1.ext hxA
    clear s0 s1 FH GH RH E1 hxA hr1
    have hc0 : (c == 0) = false := by obtain ⟨p, k⟩ := f; obtain ⟨q1, q2, -⟩ := hr9; simpa [q1] using q2
    have HR9 := Lib.hid hr9
    clear hr9
    rw [hc0]
    obtain ⟨r0, r1, f0, f1⟩ := RA.out
    go_wp2
    go_region
    go_wp2
    obtain ⟨e0, e1⟩ := res_cells (c := c) r0 r1 (.slice d i j)
    have EZ := ((E9.setCell (p := ⟨w.heap.size + 2, 0, none⟩) (Nat.le_add_right _ 2) (.int .i64 c)).setCell (p := ⟨w.heap.size + 2, 1, none⟩) (Nat.le_add_right _ 2) (.slice d i j)).drew
    exact bodyPost_ret (v := .tuple #[.int .i64 0, .agg #[.int .i64 c, .slice d i j]]) (by simp [results, Tryd.results46, go_sem, e0, e1]) rfl ⟨_, _, _, _, by rw [HV.out], EZ, by
      obtain ⟨p, k⟩ := f
      obtain ⟨q1, q2, q3⟩ := HR9.out
      obtain rfl : p = [] := HPF.out
      exact ⟨q1, q2, q3.zero⟩⟩
  | none =>
    obtain ⟨h1, h2, h3, h4⟩ := frAns_none hm
    subst h3
    subst h4
    obtain ⟨mm, p, hW, hH, hm1, hm4, hp1, hp4, g1, g2⟩ := may_sides h1
    have HV : Hid (ouV W H xs W H ys = blkF (outV W H xs W H ys) mm (mm * p)) := by show _ = _; unfold ouV; rw [hm, g1, g2]
    have IB := Lib.hid (fun i j => outV_in (W' := W) (H' := H) (ys := ys) h1 i j)
    have HM1 := Lib.hid h1
    have HM2 := Lib.hid h2
    rw [hm] at M
    clear hm h1 h2 g1 g2
    obtain ⟨A, hA⟩ : ∃ A, A = W * H := ⟨_, rfl⟩
    obtain ⟨M0, hM⟩ : ∃ M0, M0 = mm * p := ⟨_, rfl⟩
    have hMle : M0 ≤ 16 := by rw [hM]; exact Nat.mul_le_mul hm4 hp4
    have hAM : A = 64 * (M0 : Int) := by rw [hA, hM]; exact area64 hW hH
    have d1 : IntKind.i64.wrap (W * H) = A := by rw [IntKind.wrap_i64, ← hA]; omega
    have d2 : A / 64 = (M0 : Int) := by omega
    have d3 : Int.tdiv A 64 = (M0 : Int) := by rw [Int.tdiv_eq_ediv_of_nonneg (by omega)]; exact d2
    have d4 : IntKind.i64.wrap (M0 : Int) = (M0 : Int) := by rw [IntKind.wrap_i64]; omega
    have dA : 0 ≤ A ∧ A ≤ 1024 := by omega
    have HMM := Lib.hid hM
    clear hA hAM
    have HW := Lib.hid hW
    clear hW hH hM
    generalize sumV W H xs W H ys = sv at M
    have FG0 := FrBox.two w W H W H (.slice a n ca) (.slice b m cb)
    have RV : ResAt (((w.alloc (.cells #[.int .i64 W, .int .i64 H, .slice a n ca] 24)).alloc (.cells #[.int .i64 W, .int .i64 H, .slice b m cb] 24)).alloc (.cells #[.int .i64 0, .slice none 0 0] 41)) (w.heap.size + 2) := by
      have := ResAt.new ((w.alloc (.cells #[.int .i64 W, .int .i64 H, .slice a n ca] 24)).alloc (.cells #[.int .i64 W, .int .i64 H, .slice b m cb] 24))
      simpa using this
    have FB := FG0.1.ext ((Ext.refl _).alloc (.cells #[.int .i64 0, .slice none 0 0] 41))
    have GB := FG0.2.ext ((Ext.refl _).alloc (.cells #[.int .i64 0, .slice none 0 0] 41))
    clear FG0
    have EB : Ext w (((w.alloc (.cells #[.int .i64 W, .int .i64 H, .slice a n ca] 24)).alloc (.cells #[.int .i64 W, .int .i64 H, .slice b m cb] 24)).alloc (.cells #[.int .i64 0, .slice none 0 0] 41)) := (by repeat (first | exact Ext.refl _ | assumption | refine Ext.alloc ?_ _ | refine Ext.drew ?_ | refine Ext.drewN ?_ _ | refine Ext.setCell ?_ (by first | exact Nat.le_refl _ | (simp; done) | omega) _ | refine Ext.trans ?_ (by assumption)))
    go_enter Tryd.func46, Tryd.ntmps46
    go_wp2_with fail
    revert RV FB GB EB
    generalize ((w.alloc (.cells #[.int .i64 W, .int .i64 H, .slice a n ca] 24)).alloc (.cells #[.int .i64 W, .int .i64 H, .slice b m cb] 24)).alloc (.cells #[.int .i64 0, .slice none 0 0] 41) = w0
    intro RV FB GB EB
    have FH := Lib.hid FB
    have GH := Lib.hid GB
    have RH := Lib.hid RV
    clear RV FB GB
    refine (M.out _ (ha.ext EB) (hb.ext EB)).mono ?_; rintro e w1 ⟨c, d, i, j, rfl, hx1, hr1⟩
    have A1 : Ext w1 (w1.alloc (.cells #[.int .i64 c, .slice d i j] 41)) := (Ext.refl w1).alloc _
    have E1 : Ext w (w1.alloc (.cells #[.int .i64 c, .slice d i j] 41)) := EB.trans (hx1.trans A1)
    have FH := Lib.hid ((FH.out.ext hx1).ext A1)
    have GH := Lib.hid ((GH.out.ext hx1).ext A1)
    have RH := Lib.hid ((RH.out.ext hx1).ext A1)
    have s0 : (w1.alloc (.cells #[.int .i64 c, .slice d i j] 41)).cell? ⟨w1.heap.size, 0, none⟩ = some (.int .i64 c) := by simp
    have s1 : (w1.alloc (.cells #[.int .i64 c, .slice d i j] 41)).cell? ⟨w1.heap.size, 1, none⟩ = some (.slice d i j) := by simp
    have hr1 := hr1.ext A1
    clear EB hx1 A1
    go_wp2_with fail
    revert E1 FH GH RH s0 s1 hr1
    generalize w1.alloc (.cells #[.int .i64 c, .slice d i j] 41) = wS
    intro E1 FH GH RH s0 s1 hr1
    refine (ok_any c _ _).mono ?_; rintro e wA ⟨rfl, hxA⟩
    have t0 := hxA.cell s0
    have t1 := hxA.cell s1
    have RA := Lib.hid (RH.out.ext hxA)
    have FA := Lib.hid (FH.out.ext hxA)
    have GA := Lib.hid (GH.out.ext hxA)
    have E9 : Ext w wA := E1.trans hxA
    have hr9 := hr1.ext hxA
    clear s0 s1 FH GH RH E1 hxA hr1
    obtain ⟨rfl, hd⟩ := hr9
    simp only [Value.slice.injEq] at hd
    obtain ⟨rfl, rfl, rfl⟩ := hd
    rw [show ((0 : Int) == 0) = true from rfl]
    have t0H := Lib.hid t0
    have t1H := Lib.hid t1
    clear t0 t1
    go_wp2_with fail
    go_loopw [8, 9] (fun sv kv wr => ∃ k : Nat, k ≤ M0 ∧ kv = .int .i64 k ∧ sv = .int .i64 (blkF (outV W H xs W H ys) mm k) ∧ Ext wA wr) (fun _ kv _ => M0 - (intOf kv).toNat)
    case atStart => exact ⟨0, Nat.zero_le _, rfl, rfl, Ext.refl _⟩
    case round =>
      obtain ⟨k, hk, rfl, rfl, hE⟩ := hrel
      obtain ⟨p0, p1, p2⟩ := FA.out.ext hE
      obtain ⟨o0, o1, o2⟩ := GA.out.ext hE
      by_cases hlt : k < M0
      · have hW := HW.out
        obtain ⟨l1, l2⟩ := inner_loc (m := mm) (p := p) hm1 (by rw [← HMM.out]; exact hlt)
        obtain ⟨i, hi⟩ : ∃ i, i = k % mm := ⟨_, rfl⟩
        obtain ⟨j, hj⟩ : ∃ j, j = k / mm := ⟨_, rfl⟩
        have q1 : Int.tdiv W 8 = (mm : Int) := by rw [hW, Int.tdiv_eq_ediv_of_nonneg (by omega)]; omega
        have q2 : Int.tmod (k : Int) (mm : Int) = (i : Int) := by rw [hi]; exact Int.ofNat_tmod k mm
        have q2' : (k : Int) % (mm : Int) = (i : Int) := by rw [hi]; exact Int.natCast_emod k mm
        have q4 : Int.tdiv (k : Int) (mm : Int) = (j : Int) := by rw [hj]; exact Int.ofNat_tdiv k mm
        have q4' : (k : Int) / (mm : Int) = (j : Int) := by rw [hj]; exact Int.natCast_ediv k mm
        rw [← hi] at l1
        rw [← hj] at l2
        have q3 : IntKind.i64.wrap ((i : Int) * 8) = 8 * (i : Int) := by rw [IntKind.wrap_i64]; omega
        have q5 : IntKind.i64.wrap ((j : Int) * 8) = 8 * (j : Int) := by rw [IntKind.wrap_i64]; omega
        have q6 : ¬ mm = 0 := by omega
        have q7 : IntKind.i64.wrap (mm : Int) = (mm : Int) := by rw [IntKind.wrap_i64]; omega
        have q8 : IntKind.i64.wrap (i : Int) = (i : Int) := by rw [IntKind.wrap_i64]; omega
        have q9 : IntKind.i64.wrap (j : Int) = (j : Int) := by rw [IntKind.wrap_i64]; omega
        have HS : Hid (blkF (outV W H xs W H ys) mm (k + 1) = blkF (outV W H xs W H ys) mm k + outV W H xs W H ys i j) := by show _ = _; rw [hi, hj]; rfl
        have b0 := blkF_bound IB.out mm k
        have b1 := IB.out i j
        have HX : Hid (outV W H xs W H ys i j = min (actF (sqF W H xs i j)) (sadF (sqF W H xs i j) (sqF W H ys i j) 64)) := rfl
        have G := Lib.hid (fun w h => rget8 W H i j (by omega) (by omega) xs a n ca w h HM1.out)
        have G' := Lib.hid (fun w h => rget8 W H i j (by omega) (by omega) ys b m cb w h HM2.out)
        have I := Lib.hid (inside_any _ (sqF_in HM1.out i j))
        have S := Lib.hid (rsad_rows (sqF_in HM1.out i j) (sqF_in HM2.out i j))
        have bS := sadF_in (sqF_in HM1.out i j) (sqF_in HM2.out i j)
        have bA := actF_in (sqF_in HM1.out i j)
        rw [HX.out] at b1 HS
        have rM := mn2
        clear hi hj HX hW
        revert b0 b1 HS I S bS bA
        generalize blkF (outV W H xs W H ys) mm k = s
        generalize actF (sqF W H xs i j) = x
        generalize sadF (sqF W H xs i j) (sqF W H ys i j) 64 = y
        intro HS b0 b1 I S bS bA
        have q10 : IntKind.i64.wrap (s + min x y) = s + min x y := by rw [IntKind.wrap_i64]; omega
        have HA := Lib.hid (ha.ext (E9.trans hE))
        have HB := Lib.hid (hb.ext (E9.trans hE))
        go_wp2_with fail
        go_quiet (fail)
        have AN : Ext wr (wr.drewN nq) := (Ext.refl wr).drewN _
        have HA := Lib.hid (HA.out.ext AN)
        have HB := Lib.hid (HB.out.ext AN)
        have hE2 := hE.trans AN
        obtain ⟨p0', p1', p2'⟩ := FA.out.ext hE2
        clear p0 p1 p2 o0 o1 o2 hE AN
        revert HA HB hE2 p0' p1' p2'
        generalize wr.drewN nq = wq
        intro HA HB hE2 p0' p1' p2'
        go_wp2_with fail
        refine (G.out _ HA.out).mono ?_; rintro e w5 ⟨u, rfl, hx5, hu⟩
        have HU := Lib.hid hu
        obtain ⟨o0, o1, o2⟩ := GA.out.ext (hE2.trans hx5)
        clear hu p0' p1' p2'
        go_wp2_with fail
        refine (G'.out _ (HB.out.ext hx5)).mono ?_; rintro e w6 ⟨u', rfl, hx6, hu'⟩
        have HU' := Lib.hid hu'
        clear hu' o0 o1 o2
        go_wp2_with fail
        refine (S.out _ _ _ (HU.out.ext hx6) HU'.out).mono ?_; rintro e w7 ⟨rfl, hx7⟩
        have E7 := ((hE2.trans hx5).trans hx6).trans hx7
        have HU7 := Lib.hid (HU.out.ext (hx6.trans hx7))
        have A8 : Ext w7 (w7.alloc (.cells #[.int .i64 0, .slice none 0 0] 41)) := (Ext.refl w7).alloc _
        clear hx5 hx6 hx7 hE2 HU HU' HA HB
        go_wp2_with fail
        refine (I.out _ _ (HU7.out.ext A8)).mono ?_; rintro e w8 ⟨rfl, hx8⟩
        have E8 := (E7.trans A8).trans hx8
        clear E7 A8 hx8 HU7
        go_wp2
        go_roundw
        case rel => exact ⟨k + 1, by omega, by go_num, by rw [HS.out], E8⟩
        case measure => simp [intOf]; omega
      · obtain rfl : k = M0 := by omega
        have HS : Hid (blkF (outV W H xs W H ys) mm k = ouV W H xs W H ys) := by show _ = _; rw [HV.out, HMM.out]
        obtain ⟨r0, r1, f0, f1⟩ := RA.out.ext hE
        have tt0 := hE.cell t0H.out
        have tt1 := hE.cell t1H.out
        have E2 := E9.trans hE
        clear hE
        go_wp2
        go_region
        all_goals go_wp2
        all_goals
          obtain ⟨e0, e1⟩ := res_cells (c := 0) r0 r1 (.slice none 0 0)
          have EZ := ((E2.setCell (p := ⟨w.heap.size + 2, 0, none⟩) (Nat.le_add_right _ 2) (.int .i64 0)).setCell (p := ⟨w.heap.size + 2, 1, none⟩) (Nat.le_add_right _ 2) (.slice none 0 0)).drew
          exact bodyPost_ret (v := .tuple #[.int .i64 (blkF (outV W H xs W H ys) mm k), .agg #[.int .i64 0, .slice none 0 0]]) (by simp [results, Tryd.results46, go_sem, e0, e1]) rfl ⟨_, _, _, _, by rw [HS.out], EZ, RErrIs.zero⟩
end Go.Proofs.YtmhbmegmlpenkaaDoor
