/- scene.Groups: its contract over this seat's translation. -/
import Derived.Test.YtkighedghgcdjaaDoorGrp
namespace Go.Proofs.YtkighedghgcdjaaDoor
set_option linter.unusedVariables false
set_option linter.unusedSimpArgs false
open Go.RowKit Go.Extern.Stop Go.Stop Go.Extern

def frD (L : List Fr) (k : Nat) : Fr := L.getD k (0, 0, [])
def ansAt (L : List Fr) (k : Nat) : Fall := frAns (frD L (k - 1)).1 (frD L (k - 1)).2.1 (frD L (k - 1)).2.2 (frD L k).1 (frD L k).2.1 (frD L k).2.2
def unlAt (L : List Fr) (k : Nat) : Int := unlV (frD L (k - 1)).1 (frD L (k - 1)).2.1 (frD L (k - 1)).2.2 (frD L k).1 (frD L k).2.1 (frD L k).2.2
/-- the groups behind k frames: all but the last, the last -/
def grpS (L : List Fr) (cut gop : Int) : Nat → List (Int × Int) × Int × Int
  | 0 => ([], 0, 0)
  | k + 1 => if cut < unlAt L k ∨ (grpS L cut gop k).2.2 = gop then ((grpS L cut gop k).1 ++ [((grpS L cut gop k).2.1, (grpS L cut gop k).2.2)], (k : Int), 1) else ((grpS L cut gop k).1, (grpS L cut gop k).2.1, (grpS L cut gop k).2.2 + 1)
def grpL (L : List Fr) (cut gop : Int) (k : Nat) : List (Int × Int) := (grpS L cut gop k).1 ++ [((grpS L cut gop k).2.1, (grpS L cut gop k).2.2)]
theorem grpS_bound (L : List Fr) (cut gop : Int) (k : Nat) : (grpS L cut gop k).1.length ≤ k ∧ 0 ≤ (grpS L cut gop k).2.2 ∧ (grpS L cut gop k).2.2 ≤ k := by
  induction k with
  | zero => simp [grpS]
  | succ k ih =>
    unfold grpS
    split
    · simp only [List.length_append, List.length_cons, List.length_nil]; omega
    · simp only []; push_cast; omega
def scn : ByteArray := { data := #[115, 99, 101, 110, 101] }
def grpF (L : List Fr) : Nat → Fall
  | 0 => none
  | k + 1 => match grpF L k with
    | some f => some f
    | none => match ansAt L k with
      | none => none
      | some (p, c) => some ((scn, (k : Int)) :: p, c)
theorem grpF_some {L : List Fr} {k : Nat} {f : List (ByteArray × Int) × Int} (h : grpF L k = some f) (d : Nat) : grpF L (k + d) = some f := by
  induction d with
  | zero => exact h
  | succ d ih => show grpF L (k + d + 1) = _; unfold grpF; rw [ih]
theorem grpF_at {L : List Fr} {k n : Nat} {p : List (ByteArray × Int)} {c : Int} (h : grpF L k = none) (ha : ansAt L k = some (p, c)) (hk : k < n) : grpF L n = some ((scn, (k : Int)) :: p, c) := by
  have h1 : grpF L (k + 1) = some ((scn, (k : Int)) :: p, c) := by unfold grpF; rw [h, ha]
  have := grpF_some h1 (n - (k + 1))
  rwa [show k + 1 + (n - (k + 1)) = n by omega] at this
theorem grpF_next {L : List Fr} {k : Nat} (h : grpF L k = none) (ha : ansAt L k = none) : grpF L (k + 1) = none := by unfold grpF; rw [h, ha]
def grpAns (L : List Fr) (cut gop : Int) : Fall := if cut < 0 ∨ 16320 < cut ∨ gop < 1 ∨ 16 < gop then range else if L.length = 0 ∨ 16 < L.length then form else grpF L L.length
def grpV (L : List Fr) (cut gop : Int) : List (Int × Int) := match grpAns L cut gop with
  | none => grpL L cut gop L.length
  | some _ => []
/-- groups and an error -/
def GPost (w : World) (G : List (Int × Int)) (f : Fall) (e : Ending) (w' : World) : Prop := ∃ u x, e = .returned (.tuple #[u, x]) ∧ Ext w w' ∧ Row w' u G.length (gcells G) ∧ ErrIs w' f x
theorem own_addr2 {w : World} {base n : Nat} {e : TypeId} {s : Nat} {v : Value} {xs : List Value} (h : w.ownsRow base e s v n xs) (hn : 0 < n) : ∃ g cap, v = .slice (some ⟨g, 0, none⟩) n cap := by
  obtain ⟨hl, h'⟩ := id h
  rcases h' with ⟨h1, h2⟩ | ⟨g, cap, cur, e, -⟩
  · omega
  · exact ⟨g, cap, e⟩
theorem infoGrp : (Tryd.prog.info? 69).map (fun i => (i.zero, i.size, i.bytes)) = some (some (.agg #[.int .i64 0, .int .i64 0]), 2, 16) := by kernel_rfl
set_option maxRecDepth 20000 in
theorem groups_bad (L : List Fr) (cut gop : Int) (a : Option Addr) (n cap : Nat) (w : World) (h : Fms w (.slice a n cap) L) (hb : (cut < 0 ∨ 16320 < cut ∨ gop < 1 ∨ 16 < gop) ∨ n = 0 ∨ 16 < n) :
    Calls Tryd.prog 46 #[.slice a n cap, .int .i64 cut, .int .i64 gop] w (GPost w (grpV L cut gop) (grpAns L cut gop)) := by
  have hn := h.len
  by_cases hc : cut < 0 ∨ 16320 < cut ∨ gop < 1 ∨ 16 < gop
  · have hr : grpAns L cut gop = range := by unfold grpAns; rw [if_pos hc]
    have HR := Lib.hid hr
    have HV : Hid (grpV L cut gop = []) := by show _ = _; unfold grpV; rw [hr]; rfl
    clear hb hr hn h
    by_cases c1 : cut < 0
    · clear hc
      go_enter Tryd.func46, Tryd.ntmps46
      go_wp2
      go_ret2
      exact ⟨_, _, rfl, Ext.refl w, by rw [HV.out]; exact Row.nil w, by rw [HR.out]; exact ErrIs.code (by decide)⟩
    · by_cases c2 : 16320 < cut
      · clear hc
        go_enter Tryd.func46, Tryd.ntmps46
        go_wp2
        go_ret2
        exact ⟨_, _, rfl, Ext.refl w, by rw [HV.out]; exact Row.nil w, by rw [HR.out]; exact ErrIs.code (by decide)⟩
      · by_cases c3 : gop < 1
        · clear hc
          go_enter Tryd.func46, Tryd.ntmps46
          go_wp2
          go_ret2
          exact ⟨_, _, rfl, Ext.refl w, by rw [HV.out]; exact Row.nil w, by rw [HR.out]; exact ErrIs.code (by decide)⟩
        · have c4 : 16 < gop := by omega
          clear hc
          go_enter Tryd.func46, Tryd.ntmps46
          go_wp2
          go_ret2
          exact ⟨_, _, rfl, Ext.refl w, by rw [HV.out]; exact Row.nil w, by rw [HR.out]; exact ErrIs.code (by decide)⟩
  · have hb2 : n = 0 ∨ 16 < n := by
      rcases hb with hb | hb
      · exact absurd hb hc
      · exact hb
    have hr : grpAns L cut gop = form := by unfold grpAns; rw [if_neg hc, if_pos (by omega)]
    have HR := Lib.hid hr
    have HV : Hid (grpV L cut gop = []) := by show _ = _; unfold grpV; rw [hr]; rfl
    have c1 : ¬ cut < 0 := by omega
    have c2 : ¬ 16320 < cut := by omega
    have c3 : ¬ gop < 1 := by omega
    have c4 : ¬ 16 < gop := by omega
    clear hb hr hn h hc
    by_cases n0 : n = 0
    · subst n0
      clear hb2
      go_enter Tryd.func46, Tryd.ntmps46
      go_wp2
      go_ret2
      exact ⟨_, _, rfl, Ext.refl w, by rw [HV.out]; exact Row.nil w, by rw [HR.out]; exact ErrIs.code (by decide)⟩
    · have n1 : (16 : Int) < (n : Int) := by omega
      have n2 : ((n : Int) == 0) = false := by simp; omega
      clear hb2 n0
      go_enter Tryd.func46, Tryd.ntmps46
      go_wp2
      go_ret2
      exact ⟨_, _, rfl, Ext.refl w, by rw [HV.out]; exact Row.nil w, by rw [HR.out]; exact ErrIs.code (by decide)⟩
set_option maxRecDepth 20000 in
set_option maxHeartbeats 8000000 in
theorem groups_good (L : List Fr) (cut gop : Int) (a : Option Addr) (n cap : Nat) (w : World) (h : Fms w (.slice a n cap) L) (hsm : Hid (∀ (q : Nat) (f : Fr), L[q]? = some f → f.2.2.length ≤ 1000000)) (hc : 0 ≤ cut ∧ cut ≤ 16320) (hgp : 1 ≤ gop ∧ gop ≤ 16) (hn : 1 ≤ n ∧ n ≤ 16) :
    Calls Tryd.prog 46 #[.slice a n cap, .int .i64 cut, .int .i64 gop] w (GPost w (grpV L cut gop) (grpAns L cut gop)) := by
  obtain ⟨i0, hi, hz0, hz1, hz2⟩ := info_parts infoGrp
  have hnl := h.len
  have HA : Hid (grpAns L cut gop = grpF L n) := by show _ = _; unfold grpAns; rw [if_neg (by omega), if_neg (by omega), hnl]
  have HN := Lib.hid hnl
  obtain ⟨g0, off, rfl⟩ := h.had (by omega)
  have HF := Lib.hid h
  obtain ⟨hc1, hc2⟩ := hc
  obtain ⟨hg1, hg2⟩ := hgp
  obtain ⟨hn1, hn2⟩ := hn
  have n2 : ((n : Int) == 0) = false := by simp; omega
  have hown := World.ownsRow_lit (e := 69) (base := w.heap.size) (size := 2) w #[.int .i64 0, .int .i64 0] 1 (Nat.le_refl _) (by unfold maxLen; omega) rfl
  have r1 := mx2
  clear h hnl
  go_enter Tryd.func46, Tryd.ntmps46
  go_wp2
  go_loopw [8, 42] (fun gv iv wr => ∃ (k g cap q : Nat) (I : List (Int × Int)) (F C : Int), k ≤ n ∧ iv = .int .i64 k ∧ gv = .slice (some ⟨g, 0, none⟩) (q + 1) cap ∧ Hid (wr.ownsRow w.heap.size 69 2 (.slice (some ⟨g, 0, none⟩) (q + 1) cap) (q + 1) (gcells (I ++ [(F, C)]))) ∧ Hid (grpS L cut gop k = (I, F, C) ∧ I.length = q ∧ grpF L k = none) ∧ q ≤ k ∧ 0 ≤ C ∧ C ≤ k ∧ Ext w wr) (fun _ iv _ => n - (intOf iv).toNat)
  case atStart => exact ⟨0, w.heap.size, 1, 0, [], 0, 0, Nat.zero_le _, rfl, rfl, hown, ⟨rfl, rfl, rfl⟩, Nat.le_refl _, by omega, by omega, (Ext.refl w).alloc _⟩
  case round =>
    clear hown
    obtain ⟨k, g, gcap, gq, I, F, C, hk, rfl, rfl, HO, HK, b1, b2, b3, hE⟩ := hrel
    by_cases hlt : k < n
    · obtain ⟨f, hf⟩ : ∃ f, L[k]? = some f := ⟨_, List.getElem?_eq_getElem (by rw [← HN.out]; exact hlt)⟩
      obtain ⟨p, hp⟩ : ∃ p, L[k - 1]? = some p := ⟨_, List.getElem?_eq_getElem (by rw [← HN.out]; omega)⟩
      have hfd : frD L k = f := by unfold frD; rw [List.getD, hf]; rfl
      have hpd : frD L (k - 1) = p := by unfold frD; rw [List.getD, hp]; rfl
      have HFL : Hid (f.2.2.length ≤ 1000000) := hsm.out _ _ hf
      have HPL : Hid (p.2.2.length ≤ 1000000) := hsm.out _ _ hp
      have HAN : Hid (ansAt L k = frAns p.1 p.2.1 p.2.2 f.1 f.2.1 f.2.2) := by show _ = _; unfold ansAt; rw [hfd, hpd]
      have HUN : Hid (unlAt L k = unlV p.1 p.2.1 p.2.2 f.1 f.2.1 f.2.2) := by show _ = _; unfold unlAt; rw [hfd, hpd]
      have FI := (HF.out.at hf).ext hE
      have PI := Lib.hid ((HF.out.at hp).ext hE)
      obtain ⟨fa, fn, fc, c0, c1, c2, c3⟩ := FI
      have HC3 : Hid (Ints wr (.slice fa fn fc) f.2.2) := ⟨c3, Nat.le_trans HFL.out (by decide)⟩
      clear hf hp hfd hpd c3
      obtain ⟨P, hP⟩ : ∃ P, P = k - 1 := ⟨_, rfl⟩
      have t1 : max ((k : Int) - 1) 0 = (P : Int) := by omega
      have t2 : IntKind.i64.wrap ((k : Int) - 1) = (k : Int) - 1 := by rw [IntKind.wrap_i64]; omega
      have t3 : (0 : Int) ≤ (P : Int) ∧ (P : Int) < (n : Int) := by omega
      rw [← hP] at PI
      clear hP
      have AB : Ext wr (wr.alloc (.cells #[.int .i64 f.1, .int .i64 f.2.1, .slice fa fn fc] 24)) := (Ext.refl wr).alloc _
      have FB := FrBox.new wr f.1 f.2.1 (.slice fa fn fc)
      have PB := Lib.hid (PI.out.ext AB)
      have HC4 := Lib.hid (HC3.out.ext AB)
      have HO4 := Lib.hid (own_ext HO.out AB)
      have hE4 : Ext w (wr.alloc (.cells #[.int .i64 f.1, .int .i64 f.2.1, .slice fa fn fc] 24)) := hE.trans AB
      clear PI HC3 HO hE AB
      go_wp2_with fail
      revert FB PB HC4 HO4 hE4
      generalize wr.alloc (.cells #[.int .i64 f.1, .int .i64 f.2.1, .slice fa fn fc] 24) = wb
      intro FB PB HC4 HO4 hE4
      obtain ⟨p0, p1, p2⟩ := FB
      obtain ⟨pa, pn, pc, q0, q1, q2, q3⟩ := PB.out
      have HP4 : Hid (Ints wb (.slice pa pn pc) p.2.2) := ⟨q3, Nat.le_trans HPL.out (by decide)⟩
      have U := Lib.hid (fun w h k => unlike_any p.1 p.2.1 f.1 f.2.1 p.2.2 f.2.2 pa fa pn fn pc fc w h k)
      clear q3 c0 c1 c2
      go_region_held3 (fun w' => w'.cell? ⟨wr.heap.size, 0, none⟩ = some (.int .i64 f.1) ∧ w'.cell? ⟨wr.heap.size, 1, none⟩ = some (.int .i64 f.2.1) ∧ w'.cell? ⟨wr.heap.size, 2, none⟩ = some (.slice fa fn fc) ∧ w'.cell? ⟨g0, off + P * 3, none⟩ = some (.int .i64 p.1) ∧ w'.cell? ⟨g0, off + P * 3 + 1, none⟩ = some (.int .i64 p.2.1) ∧ w'.cell? ⟨g0, off + P * 3 + 2, none⟩ = some (.slice pa pn pc) ∧ Ext wb w')
        (first | assumption | (exact ⟨p0, p1, p2, q0, q1, q2, Ext.refl _⟩) | (exact ⟨p0, p1, p2, q0, q1, q2, (Ext.refl _).drew⟩) | (go_split_ands; exact ⟨hx.cell (by assumption), hx.cell (by assumption), hx.cell (by assumption), hx.cell (by assumption), hx.cell (by assumption), hx.cell (by assumption), Ext.trans (by assumption) hx⟩))
        ((go_at_call 43; obtain ⟨_, _, _, _, _, _, hE1⟩ : _ ∧ _ ∧ _ ∧ _ ∧ _ ∧ _ ∧ Ext wb _ := (by assumption); refine (U.out _ (HP4.out.ext hE1) (HC4.out.ext hE1)).mono ?_; rintro e w' ⟨x5, rfl, hx, hex⟩))
      obtain ⟨_, _, _, _, _, _, hE1⟩ : _ ∧ _ ∧ _ ∧ _ ∧ _ ∧ _ ∧ Ext wb _ := by assumption
      have HO5 := Lib.hid (own_ext HO4.out hE1)
      have E5 := hE4.trans hE1
      have hB5 := E5.size
      clear p0 p1 p2 q0 q1 q2 HO4 hE4 hE1 HC4 HP4 PB U
      rw [← HAN.out] at hex
      cases ha : ansAt L k with
      | some e0 =>
        obtain ⟨pe, ce⟩ := e0
        rw [ha] at hex
        obtain ⟨t9, y9, rfl⟩ := hex.ne
        have hpe : pe = [] := by have := HAN.out; rw [ha] at this; exact frAns_path this.symm
        subst hpe
        have HR : Hid (grpAns L cut gop = some ((scn, (k : Int)) :: [], ce)) := HA.out.trans (grpF_at HK.out.2.2 ha hlt)
        have HV : Hid (grpV L cut gop = []) := by show _ = _; unfold grpV; rw [HR.out]
        have HX := Lib.hid hex
        clear ha hex
        go_wp2_with fail
        refine (in_err scn (k : Int) [] ce _ _ HX.out.1).mono ?_; rintro e w6 ⟨u6, rfl, hx6, he6⟩
        go_wp2
        go_ret2
        exact ⟨_, _, rfl, E5.trans hx6, by rw [HV.out]; exact Row.nil _, by rw [HR.out]; exact ⟨he6, HX.out.2.1, by simp⟩⟩
      | none =>
        rw [ha] at hex
        obtain rfl : x5 = .nilIface := hex
        have HFN := Lib.hid (grpF_next HK.out.2.2 ha)
        have hci := gcells_at I F C
        rw [HK.out.2.1] at hci
        obtain ⟨cF, zF⟩ := own2_cell HO5.out hci.1
        obtain ⟨cC, zC⟩ := own2_cell HO5.out hci.2
        clear ha hci
        revert HUN
        generalize unlV p.1 p.2.1 p.2.2 f.1 f.2.1 f.2.2 = u0
        intro HUN
        have i1 : IntKind.i64.wrap ((gq : Int) + 1 - 1) = (gq : Int) := by rw [IntKind.wrap_i64]; omega
        have i2 : IntKind.i64.wrap (gq : Int) = (gq : Int) := by rw [IntKind.wrap_i64]; omega
        have i3 : (0 : Int) ≤ (gq : Int) ∧ (gq : Int) < (gq : Int) + 1 := by omega
        by_cases hA : cut < u0
        · have HST : Hid (grpS L cut gop (k + 1) = (I ++ [(F, C)], (k : Int), 1)) := by show _ = _; unfold grpS; rw [HK.out.1, if_pos (Or.inl (by rw [HUN.out]; exact hA))]
          have A6 : Ext w' (w'.alloc (.cells #[.int .i64 F, .int .i64 C] 69)) := (Ext.refl w').alloc _
          have A7 : Ext (w'.alloc (.cells #[.int .i64 F, .int .i64 C] 69)) ((w'.alloc (.cells #[.int .i64 F, .int .i64 C] 69)).alloc (.cells #[.int .i64 (k : Int), .int .i64 0] 69)) := (Ext.refl _).alloc _
          have HLR : Hid (Row ((w'.alloc (.cells #[.int .i64 F, .int .i64 C] 69)).alloc (.cells #[.int .i64 (k : Int), .int .i64 0] 69)) (.slice (some ⟨w'.heap.size + 1, 0, none⟩) 1 1) 1 [.int .i64 (k : Int), .int .i64 0]) := by
            have := Row.of_owns (World.ownsRow_lit (e := 69) (base := (w'.alloc (.cells #[.int .i64 F, .int .i64 C] 69)).heap.size) (size := 2) (w'.alloc (.cells #[.int .i64 F, .int .i64 C] 69)) #[.int .i64 (k : Int), .int .i64 0] 1 (Nat.le_refl _) (by unfold maxLen; omega) rfl)
            show Row _ _ _ _
            simpa using this
          have HO7 := Lib.hid (own_ext (own_ext HO5.out A6) A7)
          have E7 := (E5.trans A6).trans A7
          have hB7 := E7.size
          have hL1 : (I ++ [(F, C)]).length = gq + 1 := by rw [List.length_append, HK.out.2.1]; rfl
          obtain ⟨r, hr⟩ : ∃ r, r = gq + 1 := ⟨_, rfl⟩
          have HRQ := Lib.hid hr
          have i5 : IntKind.i64.wrap ((r : Int) + 1 - 1) = (r : Int) := by rw [IntKind.wrap_i64]; omega
          have i6 : IntKind.i64.wrap (r : Int) = (r : Int) := by rw [IntKind.wrap_i64]; omega
          have i7 : (0 : Int) ≤ (r : Int) ∧ (r : Int) < (r : Int) + 1 := by omega
          have hrk : r ≤ k + 1 := by omega
          have HL1 : Hid ((I ++ [(F, C)]).length = r) := by show _ = _; rw [hr]; exact hL1
          clear hr hL1 A6 A7 E5 hB5
          go_wp2_with (at_builtin; refine append_row rfl _ _ 60 rfl 69 i0 _ 2 16 Tryd.underlying60 hi hz0 hz1 hz2 rfl (by decide) _ (gq + 1) _ rfl HO7.out (.slice (some ⟨w'.heap.size + 1, 0, none⟩) 1 1) 1 [.int .i64 (k : Int), .int .i64 0] rfl HLR.out rfl (by intro x hx; simp only [List.mem_cons, List.not_mem_nil, or_false] at hx; rcases hx with rfl | rfl <;> rfl) hB7 (by unfold maxLen; omega) (by omega) ?_; intro v' w8 h1 h2 h3; have h4 : w8.ownsRow w.heap.size 69 2 v' (r + 1) (gcells (I ++ [(F, C)] ++ [((k : Int), 0)])) := (by rw [HRQ.out, gcells_snoc]; exact h1); clear h1; obtain ⟨g', cap', rfl⟩ := own_addr2 h4 (by omega); have hci := (gcells_at (I ++ [(F, C)]) (k : Int) 0).2; rw [HL1.out] at hci; obtain ⟨cN, zN⟩ := own2_cell h4 hci; have HOW := Lib.hid (own2_set (j := r * 2 + 1) (.int .i64 1) h4); have E8 : Ext w w8 := E7.of_below h2 (Nat.le_refl _); clear h2 h3 h4 hci)
          go_roundw
          case rel =>
            refine ⟨k + 1, g', cap', r, I ++ [(F, C)], (k : Int), 1, by omega, by go_num, rfl, ?_, ⟨HST.out, HL1.out, HFN.out⟩, by omega, by omega, by omega, E8.setCell (p := ⟨g', r * 2 + 1, none⟩) ?_ _⟩
            · have e := HOW.out
              rw [← HL1.out, gcells_set, HL1.out] at e
              exact e
            · exact (HOW.out.lt g' rfl).1
          case measure => simp [intOf]; omega
        · by_cases hB : C = gop
          · have HST : Hid (grpS L cut gop (k + 1) = (I ++ [(F, C)], (k : Int), 1)) := by show _ = _; unfold grpS; rw [HK.out.1, if_pos (Or.inr hB)]
            have hB' : (C == gop) = true := by simpa using hB
            clear hB
            have A6 : Ext w' (w'.alloc (.cells #[.int .i64 F, .int .i64 C] 69)) := (Ext.refl w').alloc _
            have A7 : Ext (w'.alloc (.cells #[.int .i64 F, .int .i64 C] 69)) ((w'.alloc (.cells #[.int .i64 F, .int .i64 C] 69)).alloc (.cells #[.int .i64 (k : Int), .int .i64 0] 69)) := (Ext.refl _).alloc _
            have HLR : Hid (Row ((w'.alloc (.cells #[.int .i64 F, .int .i64 C] 69)).alloc (.cells #[.int .i64 (k : Int), .int .i64 0] 69)) (.slice (some ⟨w'.heap.size + 1, 0, none⟩) 1 1) 1 [.int .i64 (k : Int), .int .i64 0]) := by
              have := Row.of_owns (World.ownsRow_lit (e := 69) (base := (w'.alloc (.cells #[.int .i64 F, .int .i64 C] 69)).heap.size) (size := 2) (w'.alloc (.cells #[.int .i64 F, .int .i64 C] 69)) #[.int .i64 (k : Int), .int .i64 0] 1 (Nat.le_refl _) (by unfold maxLen; omega) rfl)
              show Row _ _ _ _
              simpa using this
            have HO7 := Lib.hid (own_ext (own_ext HO5.out A6) A7)
            have E7 := (E5.trans A6).trans A7
            have hB7 := E7.size
            have hL1 : (I ++ [(F, C)]).length = gq + 1 := by rw [List.length_append, HK.out.2.1]; rfl
            obtain ⟨r, hr⟩ : ∃ r, r = gq + 1 := ⟨_, rfl⟩
            have HRQ := Lib.hid hr
            have i5 : IntKind.i64.wrap ((r : Int) + 1 - 1) = (r : Int) := by rw [IntKind.wrap_i64]; omega
            have i6 : IntKind.i64.wrap (r : Int) = (r : Int) := by rw [IntKind.wrap_i64]; omega
            have i7 : (0 : Int) ≤ (r : Int) ∧ (r : Int) < (r : Int) + 1 := by omega
            have hrk : r ≤ k + 1 := by omega
            have HL1 : Hid ((I ++ [(F, C)]).length = r) := by show _ = _; rw [hr]; exact hL1
            clear hr hL1 A6 A7 E5 hB5
            go_wp2_with (at_builtin; refine append_row rfl _ _ 60 rfl 69 i0 _ 2 16 Tryd.underlying60 hi hz0 hz1 hz2 rfl (by decide) _ (gq + 1) _ rfl HO7.out (.slice (some ⟨w'.heap.size + 1, 0, none⟩) 1 1) 1 [.int .i64 (k : Int), .int .i64 0] rfl HLR.out rfl (by intro x hx; simp only [List.mem_cons, List.not_mem_nil, or_false] at hx; rcases hx with rfl | rfl <;> rfl) hB7 (by unfold maxLen; omega) (by omega) ?_; intro v' w8 h1 h2 h3; have h4 : w8.ownsRow w.heap.size 69 2 v' (r + 1) (gcells (I ++ [(F, C)] ++ [((k : Int), 0)])) := (by rw [HRQ.out, gcells_snoc]; exact h1); clear h1; obtain ⟨g', cap', rfl⟩ := own_addr2 h4 (by omega); have hci := (gcells_at (I ++ [(F, C)]) (k : Int) 0).2; rw [HL1.out] at hci; obtain ⟨cN, zN⟩ := own2_cell h4 hci; have HOW := Lib.hid (own2_set (j := r * 2 + 1) (.int .i64 1) h4); have E8 : Ext w w8 := E7.of_below h2 (Nat.le_refl _); clear h2 h3 h4 hci)
            go_roundw
            case rel =>
              refine ⟨k + 1, g', cap', r, I ++ [(F, C)], (k : Int), 1, by omega, by go_num, rfl, ?_, ⟨HST.out, HL1.out, HFN.out⟩, by omega, by omega, by omega, E8.setCell (p := ⟨g', r * 2 + 1, none⟩) ?_ _⟩
              · have e := HOW.out
                rw [← HL1.out, gcells_set, HL1.out] at e
                exact e
              · exact (HOW.out.lt g' rfl).1
            case measure => simp [intOf]; omega
          · have HST : Hid (grpS L cut gop (k + 1) = (I, F, C + 1)) := by
              show _ = _
              unfold grpS
              rw [HK.out.1, if_neg (by rw [HUN.out]; exact fun e => e.elim hA hB)]
            have hB' : (C == gop) = false := by simpa using hB
            have i4 : IntKind.i64.wrap (C + 1) = C + 1 := by rw [IntKind.wrap_i64]; omega
            have A6 : Ext w' (w'.alloc (.cells #[.int .i64 F, .int .i64 C] 69)) := (Ext.refl w').alloc _
            have cC6 := A6.cell cC
            have zC6 := (Below.frozen A6 (Ext.lt cC)).trans zC
            have HOW := Lib.hid (own2_set (j := gq * 2 + 1) (.int .i64 (C + 1)) (own_ext HO5.out A6))
            have E6 := E5.trans A6
            have HL1 := Lib.hid HK.out.2.1
            clear A6
            go_wp2
            go_roundw
            case rel =>
              refine ⟨k + 1, g, gcap, gq, I, F, C + 1, by omega, by go_num, rfl, ?_, ⟨HST.out, HK.out.2.1, HFN.out⟩, by omega, by omega, by omega, E6.setCell (p := ⟨g, gq * 2 + 1, none⟩) ?_ _⟩
              · have e := HOW.out
                rw [← HL1.out, gcells_set, HL1.out] at e
                exact e
              · exact (HO5.out.lt g rfl).1
            case measure => simp [intOf]; omega
    · have hkn : ¬ (k : Int) < (n : Int) := by omega
      have hke : k = n := by omega
      have HK2 := HK
      rw [hke] at HK2
      have HR : Hid (grpAns L cut gop = none) := HA.out.trans HK2.out.2.2
      have HV : Hid (grpV L cut gop = I ++ [(F, C)]) := by
        show _ = _
        unfold grpV
        rw [HR.out]
        show grpL L cut gop L.length = _
        unfold grpL
        rw [← HN.out, HK2.out.1]
      have HRow : Hid (Row wr (.slice (some ⟨g, 0, none⟩) (gq + 1) gcap) (I ++ [(F, C)]).length (gcells (I ++ [(F, C)]))) := by
        have := Row.of_owns HO.out
        rw [List.length_append, HK.out.2.1]
        exact this
      clear hlt hke HK2
      go_wp2
      go_ret2
      exact ⟨_, _, rfl, hE, by rw [HV.out]; exact HRow.out, by rw [HR.out]; rfl⟩
theorem groups_any (L : List Fr) (cut gop : Int) (v : Value) (w : World) (h : Fms w v L) (hsm : Hid (∀ (q : Nat) (f : Fr), L[q]? = some f → f.2.2.length ≤ 1000000)) :
    Calls Tryd.prog 46 #[v, .int .i64 cut, .int .i64 gop] w (GPost w (grpV L cut gop) (grpAns L cut gop)) := by
  obtain ⟨a, cap, rfl⟩ := h.form
  by_cases hb : (cut < 0 ∨ 16320 < cut ∨ gop < 1 ∨ 16 < gop) ∨ L.length = 0 ∨ 16 < L.length
  · exact groups_bad L cut gop a _ cap w h hb
  · exact groups_good L cut gop a _ cap w h hsm (by omega) (by omega) (by omega)
end Go.Proofs.YtkighedghgcdjaaDoor
