/- kinlaw12.RacSize: the walk. -/
import Derived.Test.YtdpebaheojaihaaDoorRs
namespace Go.Proofs.YtdpebaheojaihaaDoor
set_option linter.unusedVariables false
set_option linter.unusedSimpArgs false
open Go.RowKit Go.Extern.Stop Go.Stop Go.Extern

set_option maxHeartbeats 8000000 in
set_option maxRecDepth 20000 in
theorem size_law (L : List Bool) (p : Int) (v : Value) (w : World) (hg : EtIs w) (hL : Bls w v L) : Calls Tryd.prog 7 #[v, .int .i64 p] w fun e w' => e = .returned (.bool true) ∧ Ext w w' := by
  have HG := Lib.hid hg
  obtain ⟨la, lc, rfl, hm, hq⟩ := id hL
  obtain ⟨n, hn⟩ : ∃ n, L.length = n := ⟨_, rfl⟩
  have HNL := Lib.hid hn
  rw [hn] at hm hq ⊢
  have HQ := Lib.hid hq
  unfold maxLen at hm
  clear hg hL hn hq
  go_enter Tryd.func7, Tryd.ntmps7
  go_wp2_with fail
  refine (first12_any _ HG.out).mono ?_; rintro e w0 ⟨rfl, hx0⟩
  go_wp2_with fail
  refine (newen_any _).mono ?_; rintro e w1 ⟨b, rfl, hb, hbx, hx1⟩
  have HX1 := Lib.hid (hx0.trans hx1)
  have hbB : w.heap.size ≤ b := by have := hx0.size; omega
  have hbw : b < w1.heap.size := hbx.lt
  have hA1 : EcAt w1 b w1.heap.size newE := EcAt.new hbx hbw (Nat.le_refl _)
  have hwB : w.heap.size ≤ w1.heap.size := HX1.out.size
  obtain ⟨B, hB⟩ : ∃ B, w1.heap.size = B := ⟨_, rfl⟩
  rw [hB] at hA1 hwB hbw
  have HA1 := Lib.hid hA1
  clear hx0 hx1 hb hbx hA1 hB
  by_cases h4 : 4000 < n
  · have x1 : (4000 : Int) < (n : Int) := by omega
    go_wp2_with fail
    refine (first12_any _ (HG.out.ext HX1.out)).mono ?_; rintro e w2 ⟨rfl, hx2⟩
    go_wp2
    go_ret
    exact ⟨rfl, HX1.out.trans hx2⟩
  have x1 : ¬ (4000 : Int) < (n : Int) := by omega
  have HZ0 : Hid (szI 0 newE ∧ okE (4 * 0) newE ∧ 16777216 ≤ newE.wid) := ⟨szI_new, newE_ok, by decide⟩
  go_wp2_with fail
  go_loopw [6] (fun iv wr => ∃ (i : Nat) (s : Ec), i ≤ n ∧ iv = .int .i64 (i : Int) ∧ Hid (szI i s ∧ okE (4 * i) s ∧ 16777216 ≤ s.wid) ∧ Hid (EcAt wr b B s) ∧ Hid (Ext w wr)) (fun iv _ => n - (intOf iv).toNat)
  case atStart => exact ⟨0, newE, Nat.zero_le _, rfl, HZ0.out, HA1.out, HX1.out⟩
  case round =>
    clear HZ0 HA1 HX1
    obtain ⟨i, s, hi, rfl, HZ, HA, HX⟩ := hrel
    by_cases hlt : i < n
    · obtain ⟨x, hU⟩ : ∃ x, L[i]? = some x := ⟨_, List.getElem?_eq_getElem (by rw [HNL.out]; exact hlt)⟩
      obtain ⟨g, off, rfl, hq⟩ := HQ.out (by omega)
      have c0 := HX.out.cell (hq i x hU)
      obtain ⟨z1, z2, z3⟩ := HZ.out
      have zf := szI_flat z1 x
      have zk := flaE_ok (up := x) z2 z3
      obtain ⟨s2, hs2⟩ : ∃ s2, parE s (s.wid / 2) x = s2 := ⟨_, rfl⟩
      have UF := Lib.hid (enflat_any b B (4 * i) x s wr HA.out z2 (by omega) z3)
      rw [hs2] at zf zk UF
      have HZ2 : Hid (szI (i + 1) s2 ∧ okE (4 * (i + 1)) s2 ∧ 16777216 ≤ s2.wid) := ⟨zf, by have := zk.1; rwa [show 4 * i + 4 = 4 * (i + 1) by omega] at this, zk.2⟩
      obtain ⟨l1, l2⟩ := szI_len zf
      obtain ⟨E, hE⟩ : ∃ E, lenE s2 = E := ⟨_, rfl⟩
      have HE := Lib.hid hE
      rw [hE] at l1 l2
      obtain ⟨q, hq8⟩ : ∃ q, (i + 1) / 8 = q := ⟨_, rfl⟩
      have y1 : IntKind.i64.wrap ((i : Int) + 1) = ((i + 1 : Nat) : Int) := by rw [IntKind.wrap_i64]; omega
      have y2 : Int.tdiv ((i + 1 : Nat) : Int) 8 = (q : Int) := by rw [← hq8, show (8 : Int) = ((8 : Nat) : Int) from rfl, Int.ofNat_tdiv]
      have y3 : IntKind.i64.wrap (q : Int) = (q : Int) := by rw [IntKind.wrap_i64]; omega
      have y4 : IntKind.i64.wrap ((q : Int) + 5) = (q : Int) + 5 := by rw [IntKind.wrap_i64]; omega
      have y5 : ¬ (q : Int) + 5 < (E : Int) := by omega
      have y6 : ¬ (E : Int) < 4 := by omega
      obtain ⟨i1, hi1⟩ : ∃ i1, i + 1 = i1 := ⟨_, rfl⟩
      rw [hi1] at y1 y2 HZ2
      have x2 : (0 : Int) ≤ (i : Int) := by omega
      have x3 : (i : Int) < (n : Int) := by omega
      have hN2 : 4 * i1 ≤ 1000000 := by omega
      have HI1 := Lib.hid hi1
      clear hq hU hs2 z1 z2 z3 zf zk hE hq8 hi1
      go_wp2_with fail
      refine (UF.out).mono ?_; rintro e w4 ⟨rfl, hA4, hk4⟩
      have HA4 := Lib.hid hA4
      have HX4 := Lib.hid (WKp.out HX.out hk4 hbB hwB)
      clear hA4 hk4 HA HX c0
      go_wp2_with fail
      refine (enlen_any b B _ s2 w4 HA4.out HZ2.out.2.1 hN2).mono ?_; rintro e w5 ⟨rfl, hx5⟩
      rw [HE.out]
      have HA5 := Lib.hid (HA4.out.ext hx5)
      have HX5 := Lib.hid (HX4.out.trans hx5)
      clear hx5 HA4 HX4
      go_wp2_with fail
      refine (enlen_any b B _ s2 w5 HA5.out HZ2.out.2.1 hN2).mono ?_; rintro e w6 ⟨rfl, hx6⟩
      rw [HE.out]
      have HA6 := Lib.hid (HA5.out.ext hx6)
      have HX6 := Lib.hid (HX5.out.trans hx6)
      clear hx6 HA5 HX5
      go_wp2
      go_roundw
      case rel => exact ⟨i1, s2, by have := HI1.out; omega, rfl, HZ2.out, HA6.out, HX6.out⟩
      case measure => have := HI1.out; simp [intOf]; omega
    · have x3 : ¬ (i : Int) < (n : Int) := by omega
      have hN2 : 4 * i ≤ 900000 := by omega
      have hN3 : 4 * i ≤ 1000000 := by omega
      obtain ⟨E, hE⟩ : ∃ E, lenE s = E := ⟨_, rfl⟩
      have HE := Lib.hid hE
      clear hE
      go_wp2_with fail
      refine (enend_any b B _ s wr HA.out HZ.out.2.1 hN2).mono ?_; rintro e w4 ⟨g4, k4, c4, rfl, hl4, ho4, hx4⟩
      have HA4 := Lib.hid (HA.out.ext hx4)
      have HX4 := Lib.hid (HX.out.trans hx4)
      have HTL : Hid ((trimE (allE s)).length ≤ E) := by
        show _ ≤ E
        rw [← HE.out, ← allE_len]
        exact trim_le _
      have hTb : ∀ x ∈ trimE (allE s), x < 256 := fun x hx => allE_lt HZ.out.2.1 x (by
        have h9 : ∀ l : List Nat, ∀ x ∈ trimE l, x ∈ l := by
          intro l
          induction l with
          | nil => intro x hx; cases hx
          | cons y t ih =>
            intro x hx
            have hx : x ∈ (if y = 0 ∧ trimE t = [] then [] else y :: trimE t) := hx
            split at hx
            · cases hx
            · rcases List.mem_cons.1 hx with rfl | hx
              · exact List.mem_cons_self
              · exact List.mem_cons_of_mem _ (ih x hx)
        exact h9 _ x hx)
      have hEb : E ≤ 1000000 := by
        have := (szI_len HZ.out.1).2
        rw [HE.out] at this
        omega
      have HY4 : Hid (Bys w4 (.slice (some ⟨g4, 0, none⟩) k4 c4) (trimE (allE s))) := Bys_n ho4 hl4 hTb (by have := HTL.out; omega)
      have HTB := Lib.hid hTb
      clear hl4 ho4 hx4 HA HX hTb
      go_wp2_with fail
      refine (enlen_any b B _ s w4 HA4.out HZ.out.2.1 hN3).mono ?_; rintro e w5 ⟨rfl, hx5⟩
      rw [HE.out]
      have HA5 := Lib.hid (HA4.out.ext hx5)
      have HX5 := Lib.hid (HX4.out.trans hx5)
      have HY5 := Lib.hid (HY4.out.ext hx5)
      clear hx5 HA4 HX4 HY4
      by_cases hc : chance p = true
      · have hc2 := hc
        unfold chance at hc2
        rw [Bool.and_eq_true, decide_eq_true_iff, decide_eq_true_iff] at hc2
        have p1 : ¬ p < 1 := by omega
        have p2 : ¬ 2047 < p := by omega
        have HC := Lib.hid hc
        have zk := codE_ok (p := p) (up := false) HZ.out.2.1 HZ.out.2.2
        obtain ⟨c1, c2⟩ := chance_nat hc
        have zl : lenE s ≤ lenE (codE s p false) := by
          unfold codE
          rw [if_pos hc]
          exact (len_par HZ.out.1.1 (part_of HZ.out.2.2 c1 c2).2 false).1
        obtain ⟨s2, hs2⟩ : ∃ s2, codE s p false = s2 := ⟨_, rfl⟩
        have UF := Lib.hid (encode_any b B (4 * i) p false s w5 HA5.out HZ.out.2.1 hN2 HZ.out.2.2)
        rw [hs2] at zk zl UF
        obtain ⟨E2, hE2⟩ : ∃ E2, lenE s2 = E2 := ⟨_, rfl⟩
        rw [HE.out, hE2] at zl
        have HE2 := Lib.hid hE2
        have HK2 := Lib.hid zk.1
        have y1 : (E : Int) ≤ (E2 : Int) := by omega
        have hN5 : 4 * i + 4 ≤ 900000 := by omega
        have hN6 : 4 * i + 4 ≤ 1000000 := by omega
        clear hc hc2 zk zl hs2 hE2 c1 c2 HY5
        go_wp2_with fail
        refine (UF.out).mono ?_; rintro e w6 ⟨x, rfl, hx, hA6, hk6⟩
        rw [HC.out] at hx
        obtain rfl : x = .nilIface := hx
        have HA6 := Lib.hid hA6
        have HX6 := Lib.hid (WKp.out HX5.out hk6 hbB hwB)
        clear hA6 hk6 HA5 HX5
        go_wp2_with fail
        refine (first12_any _ (HG.out.ext HX6.out)).mono ?_; rintro e w7 ⟨rfl, hx7⟩
        have HA7 := Lib.hid (HA6.out.ext hx7)
        have HX7 := Lib.hid (HX6.out.trans hx7)
        clear hx7 HA6 HX6
        go_wp2_with fail
        refine (enlen_any b B _ s2 w7 HA7.out HK2.out hN6).mono ?_; rintro e w8 ⟨rfl, hx8⟩
        rw [HE2.out]
        have HA8 := Lib.hid (HA7.out.ext hx8)
        have HX8 := Lib.hid (HX7.out.trans hx8)
        clear hx8 HA7 HX7
        go_wp2_with fail
        refine (enend_any b B _ s2 w8 HA8.out HK2.out hN5).mono ?_; rintro e w9 ⟨g9, k9, c9, rfl, hl9, -, hx9⟩
        have y2 : (k9 : Int) ≤ (E2 : Int) := by
          have := trim_le (allE s2)
          rw [hl9, allE_len, HE2.out] at this
          omega
        have HA9 := Lib.hid (HA8.out.ext hx9)
        have HX9 := Lib.hid (HX8.out.trans hx9)
        clear hl9 hx9 HA8 HX8
        go_wp2_with fail
        refine (enlen_any b B _ s2 w9 HA9.out HK2.out hN6).mono ?_; rintro e wa ⟨rfl, hxa⟩
        rw [HE2.out]
        go_wp2
        go_ret
        exact ⟨rfl, HX9.out.trans hxa⟩
      · have hc : chance p = false := by simpa using hc
        have UN := Lib.hid (encode_no b p true w5 hc)
        have hpp : p < 1 ∨ (¬ p < 1 ∧ 2047 < p) := by
          by_cases h1 : p < 1
          · exact .inl h1
          · refine .inr ⟨h1, ?_⟩
            refine Int.lt_of_not_ge fun h2 => ?_
            unfold chance at hc
            rw [decide_eq_true (by omega : 1 ≤ p), decide_eq_true (by omega : p < 2048)] at hc
            cases hc
        clear hc
        rcases hpp with p1 | ⟨p1, p2⟩
        all_goals (
          go_wp2_with fail
          refine (UN.out).mono ?_; rintro e w6 ⟨rfl, rfl⟩
          go_wp2_with fail
          refine (first12_any _ (HG.out.ext HX5.out)).mono ?_; rintro e w7 ⟨rfl, hx7⟩
          have HA7 := Lib.hid (HA5.out.ext hx7)
          have HX7 := Lib.hid (HX5.out.trans hx7)
          have HY7 := Lib.hid (HY5.out.ext hx7)
          clear hx7
          go_wp2_with fail
          refine (fail_any 3 _).mono ?_; rintro e w8 ⟨rfl, hx8⟩
          have HA8 := Lib.hid (HA7.out.ext hx8)
          have HX8 := Lib.hid (HX7.out.trans hx8)
          have HY8 := Lib.hid (HY7.out.ext hx8)
          clear hx8
          go_wp2_with fail
          refine (same_fall (some ([], 3)) _ _ _ _ (HG.out.ext HX8.out) (ErrIs.code (by decide)) (RErrIs.code (by decide))).mono ?_; rintro e w9 ⟨rfl, hx9⟩
          have HA9 := Lib.hid (HA8.out.ext hx9)
          have HX9 := Lib.hid (HX8.out.trans hx9)
          have HY9 := Lib.hid (HY8.out.ext hx9)
          clear hx9
          go_wp2_with fail
          refine (enend_any b B _ s w9 HA9.out HZ.out.2.1 hN2).mono ?_; rintro e wa ⟨ga, ka, ca, rfl, hla, hoa, hxa⟩
          have HAa := Lib.hid (HA9.out.ext hxa)
          have HXa := Lib.hid (HX9.out.trans hxa)
          have HYa := Lib.hid (HY9.out.ext hxa)
          have HZa := Lib.hid (Bys_n hoa hla HTB.out (by have := HTL.out; omega))
          clear hla hoa hxa
          go_wp2_with fail
          refine (bytes_same _ _ _ _ HZa.out HYa.out).mono ?_; rintro e wb ⟨rfl, rfl⟩
          go_wp2_with fail
          refine (enlen_any b B _ s _ HAa.out HZ.out.2.1 hN3).mono ?_; rintro e wc ⟨rfl, hxc⟩
          rw [HE.out]
          go_wp2
          go_ret
          exact ⟨rfl, HXa.out.trans hxc⟩)
end Go.Proofs.YtdpebaheojaihaaDoor
