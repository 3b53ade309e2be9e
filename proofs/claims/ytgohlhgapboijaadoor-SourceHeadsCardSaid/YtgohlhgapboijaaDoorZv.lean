/- Contracts of this seat: Sbk. -/
import Derived.Test.YtgohlhgapboijaaDoorZs
import Derived.Test.YtgohlhgapboijaaDoorZr
import Derived.Test.YtgohlhgapboijaaDoorZu
import Derived.Deep.RegionHeld3
/- kinlaw15.SourceBack: the walk. -/
namespace Go.Proofs.YtgohlhgapboijaaDoor
set_option linter.unusedVariables false
set_option linter.unusedSimpArgs false
open Go.RowKit Go.Extern.Stop Go.Stop Go.Extern

theorem Bys.upto15 {w : World} {a : Option Addr} {n cap : Nat} {bs : List Nat} (h : Bys w (.slice a n cap) bs) {k : Nat} (hk : k ≤ n) : Bys w (.slice a k cap) (bs.take k) := by
  have hl := h.len
  obtain ⟨⟨a', cap', e, h1, h2, h3, h4⟩, hb, hm⟩ := h
  simp only [Value.slice.injEq] at e
  obtain ⟨rfl, -, rfl⟩ := e
  have ht : (bs.take k).length = k := by rw [List.length_take]; omega
  refine ⟨⟨a, cap, by rw [ht], by rw [ht]; omega, h2, fun h0 => h3 (by rw [ht] at h0; omega), fun g off ha j u hu => ?_⟩, fun x hx => hb x (List.mem_of_mem_take hx), by rw [ht]; omega⟩
  refine h4 g off ha j u ?_
  rw [List.map_take, List.getElem?_take] at hu
  split at hu
  · exact hu
  · cases hu
/-- a video that is refused -/
theorem decode_no (bs : List Nat) (v : Value) (w : World) (h : Bys w v bs) (hn : (dcR bs).1 ≠ none) :
    Calls Tryd.prog 33 #[v] w fun e w' => ∃ a cap tx vx, e = .returned (.tuple #[.slice a 0 cap, .iface tx vx]) ∧ Ext w w' :=
  (decode_any bs v w h).mono fun e w' ⟨lv, x, he, hx, hi, hf⟩ => by
    rw [dcR_err hn] at hf
    obtain ⟨a, cap, rfl⟩ := hf.form
    cases hc : (dcR bs).1 with
    | none => exact absurd hc hn
    | some fc =>
      rw [hc] at hi
      obtain ⟨tx, vx, rfl⟩ := ErrIs.ne hi
      exact ⟨a, cap, tx, vx, he, hx⟩
theorem enBytes_lt {L : List Fr} (hc : ckF L = none) : (∀ x ∈ enBytes L, x < 256) ∧ 5 ≤ (enBytes L).length ∧ (enBytes L).length ≤ 1000000 := by
  obtain ⟨h0, hm, ha, h16⟩ := ckF_none hc
  obtain ⟨W, H, -, -, hW, hH, -, hE⟩ := sidesN hm ha h0
  have hl := enB_le hm L.length (Nat.le_refl _)
  rw [List.take_of_length_le (Nat.le_refl _)] at hl
  have hp := pkL_length (enB L)
  rw [hE]
  refine ⟨fun x hx => ?_, ?_, ?_⟩
  · rcases List.mem_append.1 hx with hx | hx
    · simp only [List.mem_cons, List.not_mem_nil, or_false] at hx
      omega
    · exact pkL_lt _ x hx
  · rw [List.length_append]
    simp only [List.length_cons, List.length_nil]
    omega
  · rw [List.length_append]
    simp only [List.length_cons, List.length_nil]
    omega
set_option maxHeartbeats 8000000 in
set_option maxRecDepth 100000 in
theorem back_few (L : List Fr) (cut : Int) (x : Nat) (v : Value) (w : World) (hg : EtIs w) (hT : PwIs w) (h : Fms w v L) (hp : pixB L = true) (hcut : -9223372036854775808 ≤ cut ∧ cut ≤ 9223372036854775807) (hx : x < 256) :
    Calls Tryd.prog 10 #[v, .int .i64 cut, .int .u8 (x : Int)] w fun e w' => e = .returned (.bool true) ∧ Ext w w' := by
  have hs := few_small hp
  have HS := Lib.hid hs
  have HSm := Lib.hid (pix_small15 hp)
  have UF := Lib.hid (fun (W : World) (k : Ext w W) => few15_all L v W (h.ext k))
  rw [hp] at UF
  obtain ⟨a, cap, rfl⟩ := h.form
  obtain ⟨n, hn⟩ : ∃ n, L.length = n := ⟨_, rfl⟩
  rw [hn] at h UF ⊢
  have HN := Lib.hid hn
  have HF := Lib.hid h
  have HG := Lib.hid hg
  have HT := Lib.hid hT
  have HX := Lib.hid hx
  clear h hg hT hn hs hp hx
  go_enter Tryd.func10, Tryd.ntmps10
  go_wp2_with fail
  refine (first15_any _ HG.out HT.out).mono ?_; rintro e w1 ⟨rfl, x1⟩
  have HX1 := Lib.hid x1
  clear x1
  go_wp2_with fail
  refine (UF.out _ HX1.out).mono ?_; rintro e w2 ⟨rfl, x2⟩
  have HX2 := Lib.hid (HX1.out.trans x2)
  clear x2 HX1 UF
  go_wp2_with fail
  refine (sencode_any L _ _ (HF.out.ext HX2.out) HS.out).mono ?_; rintro e w3 ⟨bv, xe, rfl, x3, he, hb, hnb⟩
  have HX3 := Lib.hid (HX2.out.trans x3)
  have hX2s := HX2.out.size
  cases hck : ckF L with
  | some fc =>
    rw [hck] at he
    obtain ⟨tx, vx, rfl⟩ := ErrIs.ne he
    have hbv := hnb (by rw [hck]; simp)
    subst hbv
    clear he hb hnb hck x3
    go_wp2_with fail
    refine (first15_any _ (HG.out.ext HX3.out) (HT.out.ext HX3.out)).mono ?_; rintro e w4 ⟨rfl, x4⟩
    go_wp2
    go_ret
    exact ⟨rfl, HX3.out.trans x4⟩
  | none =>
    rw [hck] at he
    have hxe : xe = .nilIface := he
    subst hxe
    have HCK := Lib.hid hck
    obtain ⟨hby, hown⟩ := hb hck
    obtain ⟨hlt, hl5, hl6⟩ := enBytes_lt hck
    obtain ⟨bs, hbs⟩ : ∃ bs, enBytes L = bs := ⟨_, rfl⟩
    have HBS := Lib.hid hbs
    rw [hbs] at hby hown hlt hl5 hl6
    obtain ⟨N, hN⟩ : ∃ N, bs.length = N := ⟨_, rfl⟩
    have HNN := Lib.hid hN
    obtain ⟨ba, bc, rfl⟩ := hby.form
    rw [hN] at hby hown hl5 hl6 ⊢
    obtain ⟨g, off, rfl⟩ := hby.had (by omega)
    have hcap := hby.caps
    have HBY := Lib.hid hby
    have HOW := Lib.hid (own_mono hown hX2s)
    have e0 : ((N : Int) == 0) = false := by simp; omega
    have HLT : Hid (∀ y ∈ bs ++ [x], y < 256) := fun y hy => by
      rcases List.mem_append.1 hy with hy | hy
      · exact hlt y hy
      · rw [List.mem_singleton.1 hy]
        exact HX.out
    clear he hb hnb hck x3 hby hown hlt hbs hN hX2s
    go_wp2_with fail
    refine (decode_any bs _ _ HBY.out).mono ?_; rintro e w4 ⟨lv, x4, rfl, k4, he4, hf4⟩
    have hR : dcR bs = (none, L) := by rw [← HBS.out]; exact dcR_back HCK.out
    rw [hR] at he4 hf4
    have hx4 : x4 = .nilIface := he4
    subst hx4
    have HX4 := Lib.hid (HX3.out.trans k4)
    have HBY4 := Lib.hid (HBY.out.ext k4)
    have HOW4 := Lib.hid (own_ext HOW.out k4)
    have HF4 := Lib.hid hf4
    clear he4 hf4 hR k4 HBY HOW
    go_wp2_with fail
    refine (frames_same L _ _ _ HF4.out (HF.out.ext HX4.out) HS.out.1 HSm).mono ?_; rintro e w5 ⟨rfl, k5⟩
    have HX5 := Lib.hid (HX4.out.trans k5)
    have HBY5 := Lib.hid (HBY4.out.ext k5)
    have HOW5 := Lib.hid (own_ext HOW4.out k5)
    clear k5 HF4 HBY4 HOW4
    go_upto_if 53 with fail
    go_cut [1] from 54 to 56 (fun cv wx => (∃ c : Nat, cv = .int .i64 (c : Int) ∧ c ≤ 9223372036854775807) ∧ w5 = wx)
    case first =>
      by_cases h0 : cut < 0
      · have m1 : IntKind.i64.wrap (cut + 1) = cut + 1 := by rw [IntKind.wrap_i64]; omega
        have m2 : IntKind.i64.wrap (-(cut + 1)) = -(cut + 1) := by rw [IntKind.wrap_i64]; omega
        go_wp2_with fail
        go_meet
        exact ⟨⟨(-(cut + 1)).toNat, by rw [show (((-(cut + 1)).toNat : Nat) : Int) = -(cut + 1) by omega], by omega⟩, rfl⟩
      · go_wp2_with fail
        go_meet
        exact ⟨⟨cut.toNat, by rw [show ((cut.toNat : Nat) : Int) = cut by omega], by omega⟩, rfl⟩
    obtain ⟨⟨c, rfl, hc⟩, rfl⟩ := hcut
    obtain ⟨r, hr⟩ : ∃ r, c % N = r := ⟨_, rfl⟩
    have hrN : r < N := by rw [← hr]; exact Nat.mod_lt _ (by omega)
    have i1 : Int.tmod (c : Int) (N : Int) = (r : Int) := by rw [← Int.ofNat_tmod, hr]
    have i2 : (c : Int) % (N : Int) = (r : Int) := by rw [← hr]; simp
    have i3 : (N : Int) ≠ 0 := by omega
    have i4 : (r : Int) ≤ (bc : Int) := by omega
    have i5 : (0 : Int) ≤ (r : Int) := by omega
    have i6 : (r : Int) ≤ (N : Int) := by omega
    have i7 : IntKind.i64.wrap (r : Int) = (r : Int) := by rw [IntKind.wrap_i64]; omega
    have UR := Lib.hid (decode_no (bs.take r) _ _ (HBY5.out.upto15 (Nat.le_of_lt hrN)) (by rw [← HBS.out]; exact dcR_cut HCK.out (by rw [HBS.out, HNN.out]; exact hrN)))
    clear hr
    go_wp2_with fail
    refine UR.out.mono ?_; rintro e w6 ⟨la, lc, tx, vx, rfl, k6⟩
    have HX6 := Lib.hid (HX5.out.trans k6)
    have HOW6 := Lib.hid (own_ext HOW5.out k6)
    clear k6 UR HBY5 HOW5 i1 i2 i4
    have hws : w.heap.size ≤ w6.heap.size := HX6.out.size
    go_wp2_with (at_builtin; refine app_new rfl _ _ 59 rfl Tryd.underlying59 _ N bs [x] rfl HOW6.out (by show Value.slice (some ⟨w6.heap.size, 0, none⟩) 1 1 = _; simp) (by simp) hws (by simp; omega) ?_; intro g7 cap7 w7 h1 h2; have HO7 := Lib.hid h1; have HX7 : Hid (Ext w w7) := Below.grown HX6.out h2 hws (fun k hk => (HOW6.out.lt k hk).1); clear h1 h2)
    have HY7 := Lib.hid (Bys.of_owns HO7.out HLT.out (by rw [List.length_append, HNN.out]; simp only [List.length_cons, List.length_nil]; omega))
    have HNE : Hid ((dcR (bs ++ [x])).1 ≠ none) := by show _ ≠ _; rw [← HBS.out]; exact dcR_more HCK.out x
    clear HO7
    go_wp2_with fail
    refine (decode_no (bs ++ [x]) _ _ HY7.out HNE.out).mono ?_; rintro e w8 ⟨lb, lcb, ty, vy, rfl, k8⟩
    have HX8 := Lib.hid (HX7.out.trans k8)
    clear k8
    go_wp2_with fail
    refine (first15_any _ (HG.out.ext HX8.out) (HT.out.ext HX8.out)).mono ?_; rintro e w9 ⟨rfl, x9⟩
    go_wp2
    go_ret
    exact ⟨rfl, HX8.out.trans x9⟩
set_option maxHeartbeats 4000000 in
set_option maxRecDepth 100000 in
theorem back_law (L : List Fr) (cut : Int) (x : Nat) (v : Value) (w : World) (hg : EtIs w) (hT : PwIs w) (h : Fms w v L) (hcut : -9223372036854775808 ≤ cut ∧ cut ≤ 9223372036854775807) (hx : x < 256) :
    Calls Tryd.prog 10 #[v, .int .i64 cut, .int .u8 (x : Int)] w fun e w' => e = .returned (.bool true) ∧ Ext w w' := by
  by_cases hp : pixB L = true
  · exact back_few L cut x v w hg hT h hp hcut hx
  · have hp : pixB L = false := by simpa using hp
    have UF := Lib.hid (fun (W : World) (k : Ext w W) => few15_all L v W (h.ext k))
    rw [hp] at UF
    obtain ⟨a, cap, rfl⟩ := h.form
    have HG := Lib.hid hg
    have HT := Lib.hid hT
    generalize L.length = n at *
    clear h hg hT hp
    go_enter Tryd.func10, Tryd.ntmps10
    go_wp2_with fail
    refine (first15_any _ HG.out HT.out).mono ?_; rintro e w1 ⟨rfl, x1⟩
    have HX1 := Lib.hid x1
    clear x1
    go_wp2_with fail
    refine (UF.out _ HX1.out).mono ?_; rintro e w2 ⟨rfl, x2⟩
    have HX2 := Lib.hid (HX1.out.trans x2)
    clear x2
    go_wp2_with fail
    refine (first15_any _ (HG.out.ext HX2.out) (HT.out.ext HX2.out)).mono ?_; rintro e w3 ⟨rfl, x3⟩
    go_wp2
    go_ret
    exact ⟨rfl, HX2.out.trans x3⟩
end Go.Proofs.YtgohlhgapboijaaDoor
