/- kinlaw14.CoefBack: the walk. -/
import Derived.Test.YtdndambkaohgiaaDoorCzr
import Derived.Test.YtdndambkaohgiaaDoorCbM
import Derived.Test.YtdndambkaohgiaaDoorCbP
namespace Go.Proofs.YtdndambkaohgiaaDoor
set_option linter.unusedVariables false
set_option linter.unusedSimpArgs false
open Go.RowKit Go.Extern.Stop Go.Stop Go.Extern

/-- what is done of the first i lists: D, and their slices -/
def doI (L : List (List Int)) (w : World) (D : List (List Int)) (Vs : List Value) (i : Nat) : Prop := ((totC D : Int) ≤ fewC L i ∧ D.length ≤ i ∧ Vs.length = D.length) ∧ (∀ xs ∈ D, okLv xs) ∧ ∀ (j : Nat) (xs : List Int), D[j]? = some xs → ∃ ra rc, Vs[j]? = some (Value.slice ra xs.length rc) ∧ Ints w (Value.slice ra xs.length rc) xs
theorem doI.skip {L : List (List Int)} {w : World} {D : List (List Int)} {Vs : List Value} {i : Nat} (h : doI L w D Vs i) : doI L w D Vs (i + 1) := by
  obtain ⟨⟨h1, h2, h3⟩, h4, h5⟩ := h
  have := fewC_mono L (Nat.le_add_right i 1)
  exact ⟨⟨by omega, by omega, h3⟩, h4, h5⟩
theorem doI.snoc {L : List (List Int)} {w : World} {D : List (List Int)} {Vs : List Value} {i : Nat} {xs : List Int} {ra : Option Addr} {rc : Nat} (h : doI L w D Vs i) (hs : (xs.length : Int) + fewC L i = fewC L (i + 1)) (hk : okLv xs) (hv : Ints w (.slice ra xs.length rc) xs) : doI L w (D ++ [xs]) (Vs ++ [Value.slice ra xs.length rc]) (i + 1) := by
  obtain ⟨⟨h1, h2, h3⟩, h4, h5⟩ := h
  refine ⟨⟨?_, by simp; omega, by simp [h3]⟩, fun z hz => ?_, fun j z hz => ?_⟩
  · rw [tot_snoc]; push_cast; omega
  · rcases List.mem_append.1 hz with hz | hz
    · exact h4 z hz
    · rw [List.mem_singleton.1 hz]; exact hk
  · by_cases e : j < D.length
    · rw [List.getElem?_append_left e] at hz
      obtain ⟨a, c, k1, k2⟩ := h5 j z hz
      exact ⟨a, c, by rw [List.getElem?_append_left (by omega)]; exact k1, k2⟩
    · have hj : j < (D ++ [xs]).length := (List.getElem?_eq_some_iff.1 hz).1
      rw [List.length_append, List.length_singleton] at hj
      have : j = D.length := by omega
      subst this
      rw [List.getElem?_append_right (Nat.le_refl _), Nat.sub_self] at hz
      have : xs = z := Option.some.inj hz
      subst this
      exact ⟨ra, rc, by rw [List.getElem?_append_right (by omega), h3, Nat.sub_self]; rfl, hv⟩
def fil (Z : Int) (k n : Nat) : List Int := List.replicate k Z ++ List.replicate (n - k) 0
theorem fil_len {Z : Int} {k n : Nat} (h : k ≤ n) : (fil Z k n).length = n := by unfold fil; simp; omega
theorem fil_at {Z : Int} {k n : Nat} (h : k < n) : (fil Z k n)[k]? = some 0 := by
  unfold fil
  rw [List.getElem?_append_right (by simp), List.length_replicate, Nat.sub_self, List.getElem?_replicate, if_pos (by omega)]
theorem fil_set {Z : Int} {k n : Nat} (h : k < n) : (fil Z k n).set k Z = fil Z (k + 1) n := by
  unfold fil
  rw [List.set_append_right _ _ (by simp), List.length_replicate, Nat.sub_self, show n - k = (n - (k + 1)) + 1 by omega, List.replicate_succ, List.set_cons_zero, List.replicate_succ', List.append_assoc]
  rfl
set_option maxHeartbeats 8000000 in
set_option maxRecDepth 20000 in
theorem cback_law (L : List (List Int)) (x : Int) (v : Value) (w : World) (hg : EtIs w) (hL : Mat w v L) : Calls Tryd.prog 3 #[v, .int .i64 x] w fun e w' => e = .returned (.bool true) ∧ Ext w w' := by
  have HET := Lib.hid hg
  clear hg
  obtain ⟨i0, hi, hz0, hz1, hz2⟩ := info_parts infoInt
  have HI := Lib.hid (And.intro hi (And.intro hz0 (And.intro hz1 hz2)))
  clear hi hz0 hz1 hz2
  obtain ⟨Z, hZ⟩ : ∃ Z, cl9 x = Z := ⟨_, rfl⟩
  have HZ := Lib.hid hZ
  have hm9 : min (max x (-9)) 9 = Z := hZ
  have r1 := mx2
  have r2 := mn2
  clear hZ
  obtain ⟨la, lc, rfl⟩ := hL.form
  obtain ⟨m, hm'⟩ : ∃ m, L.length = m := ⟨_, rfl⟩
  have HNL := Lib.hid hm'
  have HOT : Hid (Mat w (.slice la m lc) L) := by show Mat _ _ _; rw [← hm']; exact hL
  rw [hm']
  have UF := Lib.hid (fun w' (h : Ext w w') => fewC_any L (.slice la m lc) w' (HOT.out.ext h))
  clear hL hm'
  go_enter Tryd.func3, Tryd.ntmps3
  go_wp2_with fail
  refine (first14_any _ HET.out).mono ?_; rintro e w1 ⟨rfl, hx1⟩
  have HE1 := Lib.hid hx1
  clear hx1
  go_wp2_with fail
  refine (mwnew_any _).mono ?_; rintro e w2 ⟨a, F, rfl, hF, hW, hx2⟩
  have HU : Hid (Uno (WrF a) w w2 ⟨ch0, newE⟩) := Uno.first hW (HE1.out.trans hx2) (fun k hk => Nat.le_trans HE1.out.size (hF k hk))
  clear hF hW hx2 HE1
  go_wp2_with fail
  refine (UF.out _ HU.out.out).mono ?_; rintro e w3 ⟨rfl, rfl⟩
  clear UF
  cases hfew : fewCB L
  · go_wp2_with fail
    refine (first14_any _ (HET.out.ext HU.out.out)).mono ?_; rintro e w6 ⟨rfl, hx6⟩
    go_wp2
    go_ret
    exact ⟨rfl, HU.out.out.trans hx6⟩
  have HFW := Lib.hid hfew
  have hm2 : m ≤ 200 := by have := (fewC_out hfew).1; rw [HNL.out] at this; exact this
  have OW := Lib.hid ((WrF.obj a).sep DnF.obj)
  have HU2 : Hid (Uno (Sep (WrF a) DnF) w w2 (wsC [], (.slice none 0 0, []))) := HU.out.add (WrF.obj a) (Ext.refl w2) (DnF.nil w2) (fun _ h => h.elim)
  clear hfew HU
  go_wp2_with fail
  go_loopw [6, 7] (fun dv iv wr => ∃ (i : Nat) (D : List (List Int)) (Vs : List Value), i ≤ m ∧ iv = .int .i64 (i : Int) ∧ Hid (doI L w D Vs i) ∧ Hid (Uno (Sep (WrF a) DnF) w wr (wsC D, (dv, Vs)))) (fun _ iv _ => m - (intOf iv).toNat)
  case atStart => exact ⟨0, [], [], Nat.zero_le _, rfl, ⟨⟨Int.le_refl 0, Nat.le_refl _, rfl⟩, by simp, by simp⟩, HU2.out⟩
  case round =>
    clear HU2
    obtain ⟨i, D, Vs, hi, rfl, HD, HU⟩ := hrel
    obtain ⟨n, hn⟩ : ∃ n, D.length = n := ⟨_, rfl⟩
    have HN := Lib.hid hn
    obtain ⟨ta, tc, rfl⟩ : ∃ ta tc, u6 = .slice ta n tc := by
      obtain ⟨_, h⟩ := HU.out.r
      obtain ⟨ta, tc, e⟩ := h.form
      exact ⟨ta, tc, by rw [e, HD.out.1.2.2, hn]⟩
    have htt : totC D ≤ 5000 := by
      have h1 := HD.out.1.1
      have h2 := (fewC_out HFW.out).2
      have h3 := fewC_mono L (show i ≤ L.length by rw [HNL.out]; exact hi)
      omega
    have hnn : n ≤ 200 := by have := HD.out.1.2.1; omega
    have hDn : D.length ≤ 200 := by omega
    clear hn
    by_cases hlt : i < m
    · obtain ⟨xs, hX⟩ : ∃ xs, L[i]? = some xs := ⟨_, List.getElem?_eq_getElem (by rw [HNL.out]; exact hlt)⟩
      obtain ⟨g, off, rfl⟩ := HOT.out.had (by omega)
      obtain ⟨ra, rc, q0, q1⟩ := HOT.out.row hX
      obtain ⟨hl1, hl2⟩ := few_step HFW.out hX
      have hfb := fewC_bound L i
      have HV1 : Hid (Ints w (.slice ra xs.length rc) xs) := ⟨q1, by omega⟩
      have HQ0 := Lib.hid q0
      have HL1 := Lib.hid hl1
      have x1 : (0 : Int) ≤ (i : Int) := by omega
      have x2 : (i : Int) < (m : Int) := by omega
      have c0 := HU.out.out.cell q0
      have HK : Hid (okS okEm (172 * totC D + 4 * D.length) (wsC D)) := ws_okC D
      have UA := Lib.hid (wl_arg DnF.obj (HU.out.bag OW.out (P := fun _ => True) (fun _ => trivial)) HK.out (by omega) HV1.out)
      have HWS := Lib.hid (ws_snocC D xs)
      clear hX q0 q1 hl1 hl2 hfb HU
      go_wp2_with fail
      refine (UA.out).mono ?_; rintro e w6 ⟨u7, x7, rfl, h6⟩
      clear UA
      rcases cod_w (ws_gC D) xs with ⟨hr1, hk1, hk2, -⟩ | ⟨cc, hcc, hr⟩
      · rw [hr1, ← HWS.out] at h6
        obtain rfl : x7 = .nilIface := h6.held.2.2
        have HA6 := Lib.hid h6.held.2.1
        have HU6 := Lib.hid h6.fst
        have US := Lib.hid (ints_same xs xs u7 (.slice ra xs.length rc) w6 HA6.out (HV1.out.ext HU6.out.out))
        rw [decide_eq_true rfl] at US
        have c6 := HU6.out.out.cell HQ0.out
        have HD2 := Lib.hid (HD.out.snoc HL1.out ⟨hk1, hk2⟩ HV1.out)
        have HVN := Lib.hid HD.out.1.2.2
        clear h6 hr1 hk1 hk2 HWS c0
        go_wp2_with fail
        refine (US.out).mono ?_; rintro e w7 ⟨rfl, hx7⟩
        have HU7 := Lib.hid (HU6.out.ext OW.out hx7)
        have c7 := HU7.out.out.cell HQ0.out
        clear US hx7 HU6 c6
        go_wp2_with (at_builtin; refine push_dn (WrF.obj a) rfl _ _ 22 rfl Tryd.underlying22 (.slice ta n tc) Vs n _ _ _ _ (by rw [HVN.out, HN.out]) (by rfl) HU7.out (by rfl) (by omega) ?_; intro g8 c8 w8 h8; have H8 := Lib.hid h8; clear h8)
        go_roundw
        case rel => exact ⟨i + 1, D ++ [xs], _, by omega, by go_num, HD2.out, H8.out⟩
        case measure => simp [intOf] <;> omega
      · rw [hr] at h6
        obtain rfl : x7 = .iface 42 (.int .i64 cc) := h6.held.2.2.1
        have HU6 := Lib.hid h6.fst
        have HD2 := Lib.hid HD.out.skip
        clear h6 hr c0 HWS
        go_wp2
        go_roundw
        case rel => exact ⟨i + 1, D, Vs, by omega, by go_num, HD2.out, HU6.out⟩
        case measure => simp [intOf] <;> omega
    · have x2 : ¬ (i : Int) < (m : Int) := by omega
      -- in hand: wr, i = m, D, Vs: HD : doI, HU : Uno (Sep (WrF a) DnF) w wr (wsC D, (.slice ta n tc, Vs)), n = D.length
      have HOK : Hid (okS okEm (172 * totC D + 4 * D.length) (wsC D)) := ws_okC D
      have hB9 : (bsC D).length ≤ 4000000 := by
        have h1 := trim_le (allE (wsC D).co)
        rw [allE_len] at h1
        have h2 := HOK.out.2.1.1
        have h3 : lenE (wsC D).co ≤ (wsC D).co.done.length + (wsC D).co.run + 5 := by unfold lenE; split <;> omega
        show (trimE (allE (wsC D).co)).length ≤ _
        omega
      obtain ⟨FW, hW⟩ := HU.out.l
      have UE := Lib.hid (mwend_any a (172 * totC D + 4 * D.length) (wsC D) FW wr hW HOK.out (by omega))
      have HBL := Lib.hid (bsC_lt D)
      clear hW
      go_wp2_with fail
      refine (UE.out).mono ?_; rintro e w4 ⟨g4, k4, c4, rfl, hl4, ho4, hx4⟩
      have hy4 := Bys_n ho4 hl4 HBL.out (by rw [← hl4]; exact Nat.le_trans hB9 (by omega))
      have HY4 : Hid (Bys w4 (.slice (some ⟨g4, 0, none⟩) k4 c4) (bsC D)) := hy4
      have HU4 := Lib.hid (HU.out.ext ((WrF.obj a).sep DnF.obj) hx4)
      clear hy4 ho4 hx4 UE HU
      go_wp2_with fail
      refine (mrnew_any _ _ _ HY4.out).mono ?_; rintro e w5 ⟨d, G, rfl, hG, hR, hx5⟩
      have OR := Lib.hid (((WrF.obj a).sep DnF.obj).sep (RdF.obj d (bsC D)))
      have HU5 : Hid (Uno (Sep (Sep (WrF a) DnF) (RdF d (bsC D))) w w5 ((wsC D, (.slice ta n tc, Vs)), rsC D x 0)) := HU4.out.add ((WrF.obj a).sep DnF.obj) hx5 hR hG
      clear hG hR hx5 HU4 HY4 hl4 HOK hB9
      go_wp2_with fail
      go_loopw [11] (fun iv wr => ∃ j : Nat, j ≤ n ∧ iv = .int .i64 (j : Int) ∧ Hid (Uno (Sep (Sep (WrF a) DnF) (RdF d (bsC D))) w wr ((wsC D, (.slice ta n tc, Vs)), rsC D x j))) (fun iv _ => n - (intOf iv).toNat)
      case atStart => exact ⟨0, Nat.zero_le _, rfl, HU5.out⟩
      case round =>
        clear HU5
        obtain ⟨j, hj, rfl, HU⟩ := hrel
        by_cases hjl : j < n
        · obtain ⟨xs, hX⟩ : ∃ xs, D[j]? = some xs := ⟨_, List.getElem?_eq_getElem (by rw [HN.out]; exact hjl)⟩
          obtain ⟨ra, rc, hv1, hv2⟩ := HD.out.2.2 j xs hX
          have hro := rs_oC HD.out.2.1 x hX
          have hrk : okS okDm (4 + 172 * totC (D.take j) + 4 * j) (rsC D x j) := rs_okC x j (by rw [HN.out]; omega)
          have htk := tot_take D j
          have hlv := HD.out.2.1 xs (List.mem_of_getElem? hX)
          obtain ⟨nx, hnx⟩ : ∃ nx, xs.length = nx := ⟨_, rfl⟩
          have hn16 : nx = 16 ∨ nx = 64 := by rw [← hnx]; exact hlv.1
          have hn1 := (sq_len hn16).1
          have hn64 := (sq_len hn16).2
          rw [hnx] at hv1 hv2 hro
          have H1 := Lib.hid (HU.out.bag OR.out (P := fun _ => True) (fun _ => trivial))
          have HV1 := Lib.hid hv1
          have HV2 := Lib.hid hv2
          have HRO := Lib.hid hro
          have HRK := Lib.hid hrk
          obtain ⟨g, rfl, t0⟩ := dn_cell H1.out HV1.out
          have y1 : (0 : Int) ≤ (j : Int) := by omega
          have y2 : (j : Int) < (n : Int) := by omega
          have hrN : 4 + 172 * totC (D.take j) + 4 * j ≤ 3900000 := by omega
          clear hX hv1 hv2 hro hrk hlv hnx hn16 htk HU
          obtain ⟨wb, hwb⟩ : ∃ z, z = wr := ⟨_, rfl⟩
          subst hwb
          obtain ⟨hi, hz0, hz1, hz2⟩ := HI.out
          go_wp2_with (at_make; refine wpList_make_full _ rfl _ _ 27 rfl wb.heap.size 3 i0 (.int .i64 0) 1 Tryd.underlying27 hi hz0 hz1 .i64 .i64 _ _ nx rfl rfl rfl rfl (by rw [hz2]; omega) (by unfold maxLen; omega) (Nat.le_refl _) ?_; intro w5 hown hgrow)
          have hE := Below.grown (Ext.refl wb) hgrow (Nat.le_refl _) (fun k hk => by cases hk)
          rw [zsL_made] at hown
          have HT5 : Hid (TlF w5 (fun k => k = wb.heap.size) (.slice (some ⟨wb.heap.size, 0, none⟩) nx nx, fil Z 0 nx)) := by
            have := (TlF.new (n := nx) (by simp [zsL]) hown).1
            exact ⟨this.1, fun k => ⟨fun e => by rw [e]; rfl, fun e => by have e : some wb.heap.size = some k := e; exact (Option.some.inj e).symm⟩⟩
          have HE5 := Lib.hid hE
          clear hE hown hgrow hi hz0 hz1 hz2 t0
          go_wp2_with fail
          go_loopw [13] (fun kv wq => ∃ k : Nat, k ≤ nx ∧ kv = .int .i64 (k : Int) ∧ Hid (TlF wq (fun k => k = wb.heap.size) (.slice (some ⟨wb.heap.size, 0, none⟩) nx nx, fil Z k nx)) ∧ Hid (Ext wb wq)) (fun kv _ => nx - (intOf kv).toNat)
          case atStart => exact ⟨0, Nat.zero_le _, rfl, HT5.out, HE5.out⟩
          case round =>
            clear HT5 HE5
            obtain ⟨k, hk, rfl, HT, HE⟩ := hrel
            by_cases hkl : k < nx
            · have z1 : (0 : Int) ≤ (k : Int) := by omega
              have z2 : (k : Int) < (nx : Int) := by omega
              obtain ⟨c0, c1⟩ := HT.out.at (fil_at hkl)
              have hT := HT.out.set (k := k) (x := Z) (by rw [fil_len (by omega)]; exact hkl)
              rw [fil_set hkl] at hT
              have HT2 := Lib.hid hT
              have HE2 := Lib.hid (HE.out.setCell (p := ⟨wb.heap.size, k, none⟩) (Nat.le_refl _) (.int .i64 Z))
              clear hT
              go_wp2
              go_roundw
              case rel => exact ⟨k + 1, by omega, by go_num, HT2.out, HE2.out⟩
              case measure => simp [intOf] <;> omega
            · obtain rfl : k = nx := by omega
              have z2 : ¬ (k : Int) < (k : Int) := by omega
              have H2 := Lib.hid (bag_add OR.out H1.out HE.out (HT.out.ho (by rw [fil_len (Nat.le_refl _)]; omega)) (fun i hi => by rw [hi]; exact Nat.le_refl _))
              have hf : fil Z k k = jnk x k := by unfold fil jnk; rw [Nat.sub_self, List.replicate_zero, List.append_nil, HZ.out]
              rw [hf] at H2
              have UR := Lib.hid (rr_code ((WrF.obj a).sep DnF.obj) HBL.out H2.out HRK.out hrN (fun W h => h.2))
              rw [HRO.out] at UR
              clear hf HT HE H1 H2 HRK HRO hrN
              go_wp2_with fail
              refine (UR.out).mono ?_; rintro e w6 ⟨u6, x6, rfl, h6⟩
              obtain rfl : x6 = .nilIface := h6.held.2.2
              have HA6 := Lib.hid h6.held.2.1
              obtain ⟨g', hg', t6⟩ := dn_cell h6 HV1.out
              simp only [Option.some.injEq, Addr.mk.injEq, and_true] at hg'
              subst hg'
              have HU6 := Lib.hid h6.fst
              have US := Lib.hid (ints_same xs xs u6 (.slice ra k rc) w6 HA6.out (HV2.out.ext HU6.out.out))
              rw [decide_eq_true rfl] at US
              clear h6 UR
              go_wp2_with fail
              refine (US.out).mono ?_; rintro e w7 ⟨rfl, hx7⟩
              have HU7 := Lib.hid (HU6.out.ext OR.out hx7)
              clear US hx7 HU6 t6
              go_wp2
              go_roundw
              case rel => exact ⟨j + 1, by omega, by go_num, HU7.out⟩
              case measure => simp [intOf] <;> omega
        · have y2 : ¬ (j : Int) < (n : Int) := by omega
          go_wp2_with fail
          refine (first14_any _ (HET.out.ext HU.out.out)).mono ?_; rintro e w6 ⟨rfl, hx6⟩
          go_wp2
          go_ret
          exact ⟨rfl, HU.out.out.trans hx6⟩
end Go.Proofs.YtdndambkaohgiaaDoor
