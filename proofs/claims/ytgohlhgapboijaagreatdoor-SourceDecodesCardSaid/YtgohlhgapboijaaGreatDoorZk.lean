/- Contracts of this seat: Su5, Su6. -/
import Derived.Test.YtgohlhgapboijaaGreatDoorZj
import Derived.Test.YtgohlhgapboijaaGreatDoorZd
import Derived.Test.YtgohlhgapboijaaGreatDoorZc
import Derived.Test.YtgohlhgapboijaaGreatDoorZf
/- source.Encode. -/
namespace Go.Proofs.YtgohlhgapboijaaGreatDoor
set_option linter.unusedVariables false
set_option linter.unusedSimpArgs false
open Go.RowKit Go.Extern.Stop Go.Stop Go.Extern

/-- a frame's bits in a video -/
def frBits (f : Fr) : List Bool := frB (folds f.1.toNat f.2.2 f.2.2.length)
def enB (L : List Fr) : List Bool := L.flatMap frBits
theorem enB_snoc (L : List Fr) (f : Fr) : enB (L ++ [f]) = enB L ++ frBits f := by simp [enB]
/-- a video's bytes -/
def enBytes (L : List Fr) : List Nat := [75, 83, (frAt L 0).1.toNat / 8, (frAt L 0).2.1.toNat / 8, L.length] ++ pkL (enB L)
theorem frBits_le {f : Fr} (h : f.2.2.length ≤ 1024) : 3 ≤ (frBits f).length ∧ (frBits f).length ≤ 61443 := by
  unfold frBits frB
  have h1 := ricL_le (folds f.1.toNat f.2.2 f.2.2.length) (bestK (folds f.1.toNat f.2.2 f.2.2.length)) (by have := bestK_le (folds f.1.toNat f.2.2 f.2.2.length); omega)
  rw [folds_len] at h1
  rw [List.length_append, bsOf_length]
  omega
theorem byt_of_may {W H : Int} {zs : List Int} (h : may W H zs) : Byt zs := fun j => by
  by_cases hj : j < zs.length
  · exact h.2.2.2.at (iget_of_lt hj)
  · rw [List.getD, List.getElem?_eq_none (by omega)]
    simp
theorem ckF_none {L : List Fr} (h : ckF L = none) : 0 < L.length ∧ mayAll L ∧ alike L ∧ L.length ≤ 16 := by
  unfold ckF at h
  split at h
  · cases h
  · split at h
    · cases h
    · split at h
      · cases h
      · split at h
        · cases h
        · rename_i h1 h2 h3 h4
          exact ⟨by omega, Classical.not_not.1 h2, Classical.not_not.1 h3, by omega⟩
theorem enB_le {L : List Fr} (hm : mayAll L) (i : Nat) (hi : i ≤ L.length) : (enB (L.take i)).length ≤ 61443 * i := by
  induction i with
  | zero => simp [enB]
  | succ i ih =>
    have h := hm i (by omega)
    have ha := may_area h
    have hz : (frAt L i).2.2.length ≤ 1024 := by have := h.2.2.1; omega
    have e : L.take (i + 1) = L.take i ++ [frAt L i] := by rw [List.take_add_one, frAt_get (by omega)]; rfl
    rw [e, enB_snoc, List.length_append]
    have := (frBits_le hz).2
    have := ih (by omega)
    omega
theorem byteU8 : (Tryz.prog.info? 5).map (fun i => (i.zero, i.size, i.bytes)) = some (some (.int .u8 0), 1, 1) := by kernel_rfl
/-- what Encode answers -/
def SEnc (L : List Fr) (w : World) (e : Ending) (w' : World) : Prop := ∃ bv x, e = .returned (.tuple #[bv, x]) ∧ Ext w w' ∧ ErrIs w' (ckF L) x ∧ (ckF L = none → Bys w' bv (enBytes L) ∧ w'.ownsRow w.heap.size 5 1 bv (enBytes L).length (byC (enBytes L))) ∧ (ckF L ≠ none → bv = .slice none 0 0)
set_option maxHeartbeats 8000000 in
set_option maxRecDepth 100000 in
theorem sencode_any (L : List Fr) (v : Value) (w : World) (h : Fms w v L) (hs : Small L) : Calls Tryz.prog 8 #[v] w (SEnc L w) := by
  have UC := Lib.hid (fun (W : World) (x : Ext w W) => scheck_any L v W (h.ext x) hs)
  cases hck : ckF L with
  | some fc =>
    have HCK := Lib.hid hck
    clear hck h hs
    go_enter Tryz.func8, Tryz.ntmps8
    go_wp2_with fail
    refine (UC.out _ (Ext.refl w)).mono ?_; rintro e w1 ⟨x, rfl, x1, he⟩
    have he2 := he
    rw [HCK.out] at he2
    obtain ⟨tx, vx, rfl⟩ := ErrIs.ne he2
    have HE := Lib.hid he
    clear he he2
    go_wp2
    go_ret2
    exact ⟨_, _, rfl, x1, HE.out, (fun hn => by rw [HCK.out] at hn; cases hn), fun _ => rfl⟩
  | none =>
    obtain ⟨hl0, hma, hal, hl16⟩ := ckF_none hck
    have HCK := Lib.hid hck
    have HMA := Lib.hid hma
    have HS := Lib.hid hs
    obtain ⟨a, cap, rfl⟩ := h.form
    obtain ⟨n, hn⟩ : ∃ n, L.length = n := ⟨_, rfl⟩
    have HN := Lib.hid hn
    rw [hn] at h hl0 hl16 UC ⊢
    have HF := Lib.hid h
    obtain ⟨g, off, rfl⟩ := h.had hl0
    clear hck h hs hma hal hn
    go_enter Tryz.func8, Tryz.ntmps8
    go_wp2_with fail
    refine (UC.out _ (Ext.refl w)).mono ?_; rintro e w1 ⟨x, rfl, x1, he⟩
    rw [HCK.out] at he
    have hx : x = .nilIface := he
    subst hx
    have HX1 := Lib.hid x1
    clear he x1
    go_wp2_with fail
    refine (newwr_any _).mono ?_; rintro e w2 ⟨b, rfl, hb1, hbox, x2⟩
    have HX2 := Lib.hid (HX1.out.trans x2)
    obtain ⟨B, hB⟩ : ∃ B, w2.heap.size = B := ⟨_, rfl⟩
    have hbB : b < B := by rw [← hB]; exact Ext.lt (p := ⟨b, 0, none⟩) hbox.1.1
    have HW2 : Hid (WrAt w2 b B []) := WrAt.new hbox hbB (by rw [hB]; exact Nat.le_refl _)
    have hwb : w.heap.size ≤ b := Nat.le_trans HX1.out.size hb1
    have hwB : w.heap.size ≤ B := by rw [← hB]; exact HX2.out.size
    clear hbox x2 hb1 hB
    go_wp2_with fail
    go_loopw [18] (fun iv wr => ∃ i : Nat, i ≤ n ∧ iv = .int .i64 (i : Int) ∧ Hid (WrAt wr b B (enB (L.take i))) ∧ Hid (Ext w wr)) (fun iv _ => n - (intOf iv).toNat)
    case atStart => exact ⟨0, Nat.zero_le _, rfl, HW2, HX2⟩
    case round =>
      obtain ⟨i, hi, rfl, HW, HE⟩ := hrel
      by_cases hlt : i < n
      · obtain ⟨ra, rn, rc, c0, c1, c2, c3⟩ := fms_frame (HF.out.ext HE.out) HS.out (q := i) (by rw [HN.out]; exact hlt)
        have t1 : (i : Int) < (n : Int) := by omega
        have t2 : (0 : Int) ≤ (i : Int) := by omega
        have hm := HMA.out i (by rw [HN.out]; exact hlt)
        have hsW := sideB_true hm.1
        have hsH := sideB_true hm.2.1
        have hbl := enB_le HMA.out i (by rw [HN.out]; omega)
        have hrn : rn = (frAt L i).2.2.length := c3.len
        obtain ⟨Wf, hWf⟩ : ∃ x : Nat, (frAt L i).1 = (x : Int) := ⟨(frAt L i).1.toNat, by omega⟩
        obtain ⟨Hf, hHf⟩ : ∃ x : Nat, (frAt L i).2.1 = (x : Int) := ⟨(frAt L i).2.1.toNat, by omega⟩
        have harea := hm.2.2.1
        have hbyt := byt_of_may hm
        rw [hWf] at c0 hsW harea
        rw [hHf] at c1 hsH harea
        have hnn : rn = Wf * Hf := by
          have : ((rn : Nat) : Int) = ((Wf * Hf : Nat) : Int) := by rw [hrn, harea]; simp
          exact Int.ofNat.inj this
        have UW := Lib.hid (fun (W' : World) (x : Ext wr W') => wframe_any b B Wf Hf rn (enB (L.take i)) (frAt L i).2.2 ra rc W' (HW.out.ext x) (by omega) (c3.ext x) hbyt (by omega) (by omega) hnn)
        have HBN : Hid (enB (L.take (i + 1)) = enB (L.take i) ++ frB (folds Wf (frAt L i).2.2 rn)) := by
          show _ = _
          rw [List.take_add_one, frAt_get (by rw [HN.out]; exact hlt)]
          show enB (L.take i ++ [frAt L i]) = _
          rw [enB_snoc]
          unfold frBits
          rw [hWf, hrn]
          rfl
        clear c3 hm hsW hsH hrn hWf hHf harea hbyt hnn hbl
        go_wp2_with fail
        have HEa := Lib.hid ((Ext.refl wr).alloc (.cells #[.int .i64 (Wf : Int), .int .i64 (Hf : Int), .slice ra rn rc] 48))
        refine (UW.out _ HEa.out).mono ?_; rintro e w4 ⟨rfl, hw4, hk4⟩
        rw [← HBN.out] at hw4
        have HW4 := Lib.hid hw4
        have HE4 := Lib.hid (hk4.out (HE.out.trans HEa.out) hwb hwB)
        clear hw4 hk4 UW HEa
        go_wp2_with fail
        exact ⟨⟨i + 1, by omega, by go_num, HW4, HE4⟩, by simp [intOf]; omega⟩
      · obtain rfl : i = n := by omega
        have t1 : ¬ (i : Int) < (i : Int) := by omega
        have hbl := enB_le HMA.out i (by rw [HN.out]; omega)
        obtain ⟨ra, rn, rc, c0, c1, -, -⟩ := fms_frame (HF.out.ext HE.out) HS.out (q := 0) (by rw [HN.out]; omega)
        rw [show off + 0 * 3 = off by omega] at c0 c1
        have hm := HMA.out 0 (by rw [HN.out]; omega)
        have hsW := sideB_true hm.1
        have hsH := sideB_true hm.2.1
        have hfb := frBits_le (f := frAt L 0) (by have h1 := may_area hm; have := hm.2.2.1; omega)
        have hEn : enB (L.take i) = enB L := by rw [List.take_of_length_le (by rw [HN.out]; exact Nat.le_refl _)]
        rw [hEn] at HW hbl
        obtain ⟨Wf, hWf⟩ : ∃ x : Nat, (frAt L 0).1 = (x : Int) := ⟨(frAt L 0).1.toNat, by omega⟩
        obtain ⟨Hf, hHf⟩ : ∃ x : Nat, (frAt L 0).2.1 = (x : Int) := ⟨(frAt L 0).2.1.toNat, by omega⟩
        have HY : Hid (enBytes L = [75, 83, Wf / 8, Hf / 8, i] ++ pkL (enB L)) := by show _ = _; unfold enBytes; rw [hWf, hHf, HN.out]; rfl
        rw [hWf] at c0 hsW
        rw [hHf] at c1 hsH
        have r1 : (Wf : Int) / 8 = ((Wf / 8 : Nat) : Int) := by omega
        have r2 : (Hf : Int) / 8 = ((Hf / 8 : Nat) : Int) := by omega
        have r1' : (Wf : Int).tdiv 8 = ((Wf / 8 : Nat) : Int) := by rw [Int.tdiv_eq_ediv_of_nonneg (by omega)]; omega
        have r2' : (Hf : Int).tdiv 8 = ((Hf / 8 : Nat) : Int) := by rw [Int.tdiv_eq_ediv_of_nonneg (by omega)]; omega
        have hw8 : Wf / 8 ≤ 4 := by omega
        have hh8 : Hf / 8 ≤ 4 := by omega
        obtain ⟨W8, hW8⟩ : ∃ x, Wf / 8 = x := ⟨_, rfl⟩
        obtain ⟨H8, hH8⟩ : ∃ x, Hf / 8 = x := ⟨_, rfl⟩
        rw [hW8] at r1 r1' hw8 HY
        rw [hH8] at r2 r2' hh8 HY
        have u1 : IntKind.u8.wrap (W8 : Int) = (W8 : Int) := by rw [IntKind.wrap_u8]; omega
        have u2 : IntKind.u8.wrap (H8 : Int) = (H8 : Int) := by rw [IntKind.wrap_u8]; omega
        have u3 : IntKind.u8.wrap (i : Int) = (i : Int) := by rw [IntKind.wrap_u8]; omega
        have i1 : IntKind.i64.wrap (W8 : Int) = (W8 : Int) := by rw [IntKind.wrap_i64]; omega
        have i2 : IntKind.i64.wrap (H8 : Int) = (H8 : Int) := by rw [IntKind.wrap_i64]; omega
        have t2 : (0 : Int) < (i : Int) := by omega
        clear hm hsW hsH hWf hHf hW8 hH8 hEn
        go_wp2_with fail
        go_still_tail 15, (by kernel_rfl)
        change wpList _ _ _ _ _ wr.drew
        have HWd := Lib.hid (HW.out.ext (Ext.refl wr).drew)
        have HEd := Lib.hid (HE.out.drew)
        clear HW HE c0 c1
        generalize wr.drew = wy at *
        go_wp2_with fail
        obtain ⟨i0, hi0, hz0, hz1, hz2⟩ := info_parts byteU8
        have HOz : Hid ((wy.alloc (.cells #[.int .u8 75, .int .u8 83, .int .u8 (W8 : Int), .int .u8 (H8 : Int), .int .u8 (i : Int)] 5)).ownsRow wy.heap.size 5 1 (.slice (some ⟨wy.heap.size, 0, none⟩) 5 5) 5 (byC [75, 83, W8, H8, i])) :=
          ⟨rfl, .inr ⟨wy.heap.size, 5, #[.int .u8 75, .int .u8 83, .int .u8 (W8 : Int), .int .u8 (H8 : Int), .int .u8 (i : Int)], rfl, Nat.le_refl _, heap_alloc_new wy _, Nat.le_refl _, by decide, rfl, rfl⟩⟩
        have HWz := Lib.hid (HWd.out.ext ((Ext.refl wy).alloc (.cells #[.int .u8 75, .int .u8 83, .int .u8 (W8 : Int), .int .u8 (H8 : Int), .int .u8 (i : Int)] 5)))
        have HEz := Lib.hid (HEd.out.alloc (.cells #[.int .u8 75, .int .u8 83, .int .u8 (W8 : Int), .int .u8 (H8 : Int), .int .u8 (i : Int)] 5))
        have hszz : wy.heap.size ≤ (wy.alloc (.cells #[.int .u8 75, .int .u8 83, .int .u8 (W8 : Int), .int .u8 (H8 : Int), .int .u8 (i : Int)] 5)).heap.size := by simp
        have hwy := HEd.out.size
        clear HWd
        revert HOz HWz HEz hszz
        generalize wy.alloc _ = wz
        generalize wy.heap.size = Y at *
        intro HOz HWz HEz hszz
        refine (wbytes_any b B (enB L) _ HWz.out).mono ?_; rintro e w6 ⟨u6, rfl, o6, x6⟩
        have HE6 := Lib.hid (HEz.out.trans x6)
        have HO6 := Lib.hid (own_ext HOz.out x6)
        have HR6 := Lib.hid (Row.of_owns o6)
        have hplen := pkL_length (enB L)
        have hE3 : 3 ≤ (enB L).length := by
          have e : enB L = enB (L.take 1) ++ enB (L.drop 1) := by
            unfold enB
            rw [← List.flatMap_append, List.take_append_drop]
          have e2 : L.take 1 = [frAt L 0] := by
            rw [show (1 : Nat) = 0 + 1 from rfl, List.take_add_one, frAt_get (by rw [HN.out]; omega)]
            rfl
          rw [e, e2, List.length_append]
          have : (enB [frAt L 0]).length = (frBits (frAt L 0)).length := by simp [enB]
          omega
        obtain ⟨m, hm⟩ : ∃ m, (pkL (enB L)).length = m := ⟨_, rfl⟩
        have HMM := Lib.hid hm
        have hm1 : 1 ≤ m := by omega
        have hm2 : m ≤ 1000000 := by omega
        have hs6 : Y ≤ w6.heap.size := Nat.le_trans hszz x6.size
        obtain ⟨g6, c6, hu6⟩ : ∃ g c, u6 = .slice (some ⟨g, 0, none⟩) m c := by
          rcases o6.2 with ⟨hv, h0⟩ | ⟨g, cap, cur, hv, _⟩
          · omega
          · exact ⟨g, cap, by rw [hv, hm]⟩
        subst hu6
        have hnews : ∀ j u, (byC (pkL (enB L)))[j]? = some u → w6.cell? ((⟨g6, 0, none⟩ : Addr).add j) = some u := fun j u hj => by
          have h2 := HR6.out
          rw [HMM.out] at h2
          have h3 := h2.at hj
          rw [Go.WideShapes.add_plain]
          exact h3
        have HNEWS := Lib.hid hnews
        clear x6 o6 HOz HWz HEz hplen hE3 hnews hm
        go_wp2_with (at_builtin; refine wpList_append_own _ rfl _ _ 26 rfl Y 5 i0 (.int .u8 0) 1 1 Tryz.underlying26 hi0 hz0 hz1 hz2 rfl (by decide) _ 5 _ rfl HO6.out ⟨g6, 0, none⟩ m c6 (byC (pkL (enB L))) rfl (by rw [byC_length, HMM.out]; omega) HNEWS.out (byC_one _) (by unfold maxLen; omega) (by omega) hs6 ?_)
        intro v7 w7 o7 hg7 _
        have HX7 : Hid (Ext w w7) := Below.grown HE6.out hg7 HE6.out.size (fun k hk => Nat.le_trans hwy (HO6.out.lt k hk).1)
        have HB7 : Hid (Bys w7 v7 (enBytes L)) := by
          have hlen : (enBytes L).length = 5 + m := by rw [HY.out, List.length_append, HMM.out]; rfl
          have hr := Row.of_owns o7
          have hmap : (enBytes L).map (fun x : Nat => Value.int .u8 (x : Int)) = byC [75, 83, W8, H8, i] ++ byC (pkL (enB L)) := by
            rw [HY.out]
            exact List.map_append
          refine ⟨?_, ?_, by omega⟩
          · rw [hlen, hmap]
            exact hr
          · intro x hx
            rw [HY.out, List.mem_append] at hx
            rcases hx with hx | hx
            · simp only [List.mem_cons, List.not_mem_nil, or_false] at hx
              omega
            · exact pkL_lt _ x hx
        have HO7 : Hid (w7.ownsRow w.heap.size 5 1 v7 (enBytes L).length (byC (enBytes L))) := by
          have hlen : (enBytes L).length = 5 + m := by rw [HY.out, List.length_append, HMM.out]; rfl
          have hmap : byC (enBytes L) = byC [75, 83, W8, H8, i] ++ byC (pkL (enB L)) := by
            rw [HY.out]
            exact List.map_append
          show World.ownsRow _ _ _ _ _ _ _
          rw [hlen, hmap]
          exact own_mono o7 hwy
        clear o7 hg7
        go_wp2
        go_ret2
        exact ⟨_, _, rfl, HX7.out, by rw [HCK.out]; rfl, fun _ => ⟨HB7.out, HO7.out⟩, fun hne => absurd HCK.out hne⟩
end Go.Proofs.YtgohlhgapboijaaGreatDoor

/- source.Guess, kinref15.Guess; source.Decode of nil and of a head alone. -/
namespace Go.Proofs.YtgohlhgapboijaaGreatDoor
set_option linter.unusedVariables false
set_option linter.unusedSimpArgs false
open Go.RowKit Go.Extern.Stop Go.Stop Go.Extern

/-- the guess at any place of any frame -/
noncomputable def ggV (W H : Int) (zs : List Int) (X Y : Int) : Int := if may W H zs ∧ (0 ≤ X ∧ X < W) ∧ 0 ≤ Y ∧ Y < H then gsV W zs X.toNat Y.toNat (Y.toNat * W.toNat) else 0
theorem ggV_bound (W H : Int) (zs : List Int) (X Y : Int) : 0 ≤ ggV W H zs X Y ∧ ggV W H zs X Y ≤ 255 := by
  unfold ggV
  split
  · rename_i h
    exact gsV_bound (byt_of_may h.1) _ _ _
  · omega
end Go.Proofs.YtgohlhgapboijaaGreatDoor
