/- gop.Pack. -/
import Derived.Test.YtlaedbglclmheaaGreatDoorGp2
import Derived.Test.YtlaedbglclmheaaGreatDoorZd
import Derived.Test.YtlaedbglclmheaaGreatDoorZe
namespace Go.Proofs.YtlaedbglclmheaaGreatDoor
set_option linter.unusedVariables false
set_option linter.unusedSimpArgs false
open Go.RowKit Go.Extern.Stop Go.Stop Go.Extern

theorem enc_le {u : Um} (h : okM u) : (encB u.1 u.2).length ≤ 65544 := by
  rw [encB_len]
  have := h.2.2.1
  split <;> omega
theorem out_le {l : List Um} (h : ∀ u ∈ l, okM u) : (outM l).length ≤ l.length * 65544 := by
  induction l with
  | nil => exact Nat.le_refl _
  | cons u t ih =>
    show (encB u.1 u.2 ++ outM t).length ≤ (t.length + 1) * 65544
    rw [List.length_append]
    have h1 := enc_le (h u List.mem_cons_self)
    have h2 := ih (fun u hu => h u (List.mem_cons_of_mem _ hu))
    omega
theorem out_le17 {l : List Um} (h : ∀ u ∈ l, okM u) (hl : l.length ≤ 17) : (outM l).length ≤ 1114248 := Nat.le_trans (out_le h) (Nat.le_trans (Nat.mul_le_mul_right 65544 hl) (by decide))
theorem ar_b {q y : Nat} (h1 : q ≤ 1114248) (h2 : y ≤ 65544) : q + y ≤ 1000000000 := Nat.le_trans (Nat.add_le_add h1 h2) (by decide)
theorem uk_ok {u : Um} (h : okM u) : ukF (u.1 : Int) u.2.length = none ∧ ukV (u.1 : Int) u.2 = encB u.1 u.2 := by
  obtain ⟨h1, h2, h3, h4⟩ := h
  have e : ukF (u.1 : Int) u.2.length = none := by
    unfold ukF
    rw [if_neg, if_neg (by omega)]
    rintro (h | h | ⟨h, h'⟩)
    · omega
    · omega
    · rw [h2 (by omega)] at h'
      exact Nat.lt_irrefl _ h'
  refine ⟨e, ?_⟩
  unfold ukV
  rw [e]
  rfl
/-- the data of the coded frames are plain slices -/
def CdsP (w : World) (v : Value) : Prop := ∀ g off n cap (q : Nat) u, v = .slice (some ⟨g, off, none⟩) n cap → q < n → w.cell? ⟨g, off + q * 2 + 1, none⟩ = some u → Plain u
set_option maxRecDepth 20000 in
set_option maxHeartbeats 4000000 in
theorem gpack_any (n f c : Int) (L : List Cd) (v : Value) (w : World) (hnb : NbIs w) (h : Cds w v L) (hp : CdsP w v) (hs : Hid (∀ (q : Nat) (c : Cd), L[q]? = some c → c.2.length ≤ 1000000)) :
    Calls Tryz.prog 13 #[.agg #[.int .i64 n, .int .i64 f, .int .i64 c, v]] w (MPost w (gpkV n f c L) (gpkF n f c L)) := by
  obtain ⟨a, cap, rfl⟩ := h.form
  obtain ⟨m, hm⟩ : ∃ m, m = L.length := ⟨_, rfl⟩
  have HM := Lib.hid hm
  rw [← hm] at h hp ⊢
  have AG := Lib.hid h.had
  have HC := Lib.hid h
  have HP := Lib.hid hp
  have X1 := (Ext.refl w).alloc (.cells #[.int .i64 n, .int .i64 f, .int .i64 c, .slice a m cap] 26)
  have B1 := BoxIs.new w #[.int .i64 n, .int .i64 f, .int .i64 c, .slice a m cap] 26
  have HX1 := Lib.hid X1
  have HB1 := Lib.hid B1
  have HNB := Lib.hid hnb
  have HC1 := Lib.hid (h.ext X1)
  clear hm h X1 B1 hp hnb
  have UM := Lib.hid (fun w hc => gmay_any n f c L (.slice a m cap) w hc hs)
  cases hg : gmayB n f c L with
  | false =>
    have HV : Hid (gpkV n f c L = []) := by show _ = _; unfold gpkV; rw [hg]; rfl
    have HF : Hid (gpkF n f c L = some ([], 2)) := by show _ = _; unfold gpkF; rw [hg]; rfl
    go_enter Tryz.func13, Tryz.ntmps13
    go_wp2_with fail
    refine (UM.out _ HC1.out).mono ?_; rintro e w1 ⟨rfl, hx1⟩
    rw [hg]
    have E1 := HX1.out.trans hx1
    clear hx1 UM
    go_wp2
    go_ret2
    exact ⟨_, _, rfl, by rw [HV.out]; exact World.ownsRow_nil _ _ _ _, by rw [HF.out]; exact ErrIs.code (by decide), E1⟩
  | true =>
    have hb : ∀ cd ∈ L, ∀ x ∈ cd.2, x < 256 := fun cd hcd => by
      obtain ⟨q, hq⟩ := List.getElem?_of_mem hcd
      obtain ⟨g, o, rfl⟩ := AG.out (by rw [HM.out]; exact List.length_pos_of_mem hcd)
      obtain ⟨_, _, _, _, _, _, h4⟩ := HC.out.at hq
      exact h4
    obtain ⟨h1, h2, h3⟩ := gmay_out hg
    obtain ⟨⟨g1, g2⟩, ⟨g3, g4⟩, g5, g6⟩ := grp_iff.1 h1
    obtain ⟨n', rfl⟩ : ∃ n' : Nat, n = (n' : Int) := ⟨n.toNat, by omega⟩
    obtain ⟨f', rfl⟩ : ∃ f' : Nat, f = (f' : Int) := ⟨f.toNat, by omega⟩
    rw [← HM.out] at h2
    subst h2
    have hok := umsG_ok hg hb
    obtain ⟨T, hT⟩ : ∃ T, umsG (n' : Int) (f' : Int) (m : Int) L = T := ⟨_, rfl⟩
    have HV : Hid (gpkV (n' : Int) (f' : Int) (m : Int) L = outM T) := by show _ = _; unfold gpkV; rw [hg, hT]; rfl
    have HF : Hid (gpkF (n' : Int) (f' : Int) (m : Int) L = none) := by show _ = _; unfold gpkF; rw [hg]; rfl
    rw [hT] at hok
    have HOK := Lib.hid hok
    have hT0 : T = (32, [n', f', m]) :: L.map umC := by rw [← hT]; unfold umsG; simp
    have HT0 := Lib.hid hT0
    have hTl : T.length = m + 1 := by rw [hT0, List.length_cons, List.length_map, HM.out]
    have HTL := Lib.hid hTl
    have m1 : IntKind.u8.wrap (n' : Int) = (n' : Int) := by rw [IntKind.wrap_u8]; omega
    have m2 : IntKind.u8.wrap (f' : Int) = (f' : Int) := by rw [IntKind.wrap_u8]; omega
    have m3 : IntKind.u8.wrap (m : Int) = (m : Int) := by rw [IntKind.wrap_u8]; omega
    have hm16 : m ≤ 16 := by omega
    have hl3 : ∀ x ∈ [n', f', m], x < 256 := fun x hx => by
      simp only [List.mem_cons, List.not_mem_nil, or_false] at hx
      rcases hx with rfl | rfl | rfl <;> omega
    have HL3 := Lib.hid hl3
    have hcs : ∀ cd ∈ L, rdC cd.1 cd.2 = 0 := cds_all h3
    have HCS := Lib.hid hcs
    clear h1 h3 hb hT hok hT0 hTl hl3 hcs g1 g2 g3 g4 g5 g6
    have UK := Lib.hid (fun w v hn hb hp => make_any (32 : Int) [n', f', m] v w hn hb hp)
    obtain ⟨k1, k2⟩ := uk_ok (HOK.out (32, [n', f', m]) (by rw [HT0.out]; exact List.mem_cons_self))
    have k1 : ukF (32 : Int) [n', f', m].length = none := k1
    have k2 : ukV (32 : Int) [n', f', m] = encB 32 [n', f', m] := k2
    rw [k1, k2] at UK
    clear k1 k2
    go_enter Tryz.func13, Tryz.ntmps13
    go_wp2_with fail
    refine (UM.out _ HC1.out).mono ?_; rintro e w1 ⟨rfl, hx1⟩
    rw [hg]
    have B2 := HB1.out.ext hx1
    have HE1 := Lib.hid (HX1.out.trans hx1)
    have b0 := B2.cell (i := 0) (v := .int .i64 (n' : Int)) rfl
    have b1 := B2.cell (i := 1) (v := .int .i64 (f' : Int)) rfl
    have b2 := B2.cell (i := 2) (v := .int .i64 (m : Int)) rfl
    have b3 := B2.cell (i := 3) (v := .slice a m cap) rfl
    have HB2 := Lib.hid B2
    have X3 := (Ext.refl w1).alloc (.cells #[.int .u8 (n' : Int), .int .u8 (f' : Int), .int .u8 (m : Int)] 5)
    have BY := Bys.lit w1 (0, 0) [n', f', m] HL3.out (by simp)
    have HX3 := Lib.hid X3
    have HBY : Hid (Bys (w1.alloc (.cells #[.int .u8 (n' : Int), .int .u8 (f' : Int), .int .u8 (m : Int)] 5)) (.slice (some ⟨w1.heap.size, 0, none⟩) 3 3) [n', f', m]) := BY
    have HN3 := Lib.hid ((HNB.out.ext HE1.out).ext X3)
    clear hx1 UM B2 X3 BY
    go_wp2_with fail
    refine (UK.out _ _ HN3.out HBY.out (.inr ⟨_, _, _, rfl⟩)).mono ?_; rintro e w4 ⟨u4, x4, rfl, ho4, hx, hx4⟩
    obtain rfl : x4 = .nilIface := hx
    obtain ⟨q4, hq4⟩ : ∃ q, (encB 32 [n', f', m]).length = q := ⟨_, rfl⟩
    have HE4 := Lib.hid (HE1.out.trans (HX3.out.trans hx4))
    have HO4 := Lib.hid (own_mono ho4 (HE1.out.trans HX3.out).size)
    rw [hq4] at HO4
    have HQ4 := Lib.hid hq4
    have b3 := hx4.cell (HX3.out.cell b3)
    clear ho4 hx4 HBY HX3 HN3 UK hq4 b0 b1 b2 k1 k2 HB1 HX1 HE1 HC1 m1 m2 m3 HB2
    go_wp2
    go_loopw [4, 36] (fun bv iv wr => ∃ (k q : Nat) (xs : List Nat), k ≤ m ∧ iv = .int .i64 k ∧ Hid (xs = outM (T.take (k + 1))) ∧ Hid (xs.length = q) ∧ Hid (wr.ownsRow w.heap.size 5 1 bv q (byC xs)) ∧ Hid (Ext w wr)) (fun _ iv _ => m - (intOf iv).toNat)
    case atStart => exact ⟨0, q4, encB 32 [n', f', m], Nat.zero_le _, rfl, by show _ = _; rw [HT0.out]; show _ = encB 32 [n', f', m] ++ []; rw [List.append_nil], HQ4, HO4, HE4⟩
    case round =>
      clear b3 HQ4 HO4 HE4
      obtain ⟨k, q, xs, hk, rfl, HX, HQ, HO, HE⟩ := hrel
      by_cases hlt : k < m
      · obtain ⟨cd, hc⟩ : ∃ cd, L[k]? = some cd := ⟨_, List.getElem?_eq_getElem (by rw [← HM.out]; exact hlt)⟩
        obtain ⟨g, off, rfl⟩ := AG.out (by omega)
        obtain ⟨ca, cn, cc, k0, k1, k2, k3⟩ := HC.out.at hc
        have hpl := HP.out g off m cap k _ rfl hlt k1
        have k0 := HE.out.cell k0
        have k1 := HE.out.cell k1
        have hcl := hs.out k cd hc
        have HB := Lib.hid (show Bys wr (.slice ca cn cc) cd.2 from ⟨k2.ext HE.out, k3, by omega⟩)
        have hrd := HCS.out cd (List.mem_of_getElem? hc)
        obtain ⟨⟨r1, r2⟩, r3⟩ := rd_ok hrd
        have hTk : T[k + 1]? = some (umC cd) := by rw [HT0.out, List.getElem?_cons_succ, List.getElem?_map, hc]; rfl
        have huk := HOK.out _ (List.mem_of_getElem? hTk)
        have HXN : Hid (xs ++ encB (umC cd).1 (umC cd).2 = outM (T.take (k + 1 + 1))) := by
          show _ = _
          rw [List.take_add_one, hTk, HX.out]
          exact (out_snoc _ _).symm
        have hql : q ≤ 1114248 := by
          rw [← HQ.out, HX.out]
          exact out_le17 (fun u hu => HOK.out u (List.mem_of_mem_take hu)) (by rw [List.length_take]; omega)
        have hel := enc_le huk
        obtain ⟨j1, j2⟩ := uk_ok huk
        have hlt2 := encB_lt huk.1 huk.2.2.2 huk.2.2.1
        obtain ⟨fk, fbs⟩ := cd
        obtain ⟨fk', rfl⟩ : ∃ z : Nat, fk = (z : Int) := ⟨fk.toNat, by have r1 : 1 ≤ fk := r1; omega⟩
        have e1 : umC ((fk' : Int), fbs) = (fk', fbs) := by unfold umC; simp
        rw [e1] at j1 j2 HXN hel hlt2
        dsimp only at k0 k1 HB j1 j2 HXN hel hlt2
        obtain ⟨ys, hys⟩ : ∃ ys, encB fk' fbs = ys := ⟨_, rfl⟩
        rw [hys] at j2 HXN hel hlt2
        have X2 := (Ext.refl wr).alloc (.cells #[.int .i64 (fk' : Int), .slice ca cn cc] 61)
        have UM := make_any (fk' : Int) fbs (.slice ca cn cc) _ ((HNB.out.ext HE.out).ext X2) (HB.out.ext X2) hpl
        rw [j1, j2] at UM
        have HUM := Lib.hid UM
        have BC := BoxIs.new wr #[.int .i64 (fk' : Int), .slice ca cn cc] 61
        have c0 := BC.cell (i := 0) (v := .int .i64 (fk' : Int)) rfl
        have c1 := BC.cell (i := 1) (v := .slice ca cn cc) rfl
        have HX2 := Lib.hid X2
        have HYL := Lib.hid hlt2
        clear k2 k3 hc hTk huk j1 j2 hys hrd e1 hcl r1 r2 r3 X2 UM BC hpl HB HX hlt2
        go_wp2_with fail
        refine HUM.out.mono ?_; rintro e w5 ⟨u5, x5, rfl, ho5, hx, hx5⟩
        obtain rfl : x5 = .nilIface := hx
        have HBU := Lib.hid (Bys.of_owns ho5 HYL.out (Nat.le_trans hel (by decide)))
        have HPU := Lib.hid (Plain.of_owns ho5)
        have HO5 := Lib.hid (own_extl HO.out (HX2.out.trans hx5))
        have HE5 := Lib.hid (HE.out.trans (HX2.out.trans hx5))
        have hbs := HE5.out.size
        have hm9 : q + ys.length ≤ 1000000000 := ar_b hql hel
        clear HUM ho5 hx5 HX2 HO HE k0 k1 c0 c1 HYL
        go_wp2_with (at_builtin; refine app_any rfl _ _ 30 rfl Tryz.underlying30 _ q xs ys u5 rfl HO5.out rfl HBU.out HPU.out hbs hm9 ?_; intro v7 w7 h7 k7; have HO7 := Lib.hid h7; have HE7 : Hid (Ext w w7) := HE5.out.of_below (Below.grown (Below.refl _ _) k7 hbs (fun i hi => (HO5.out.lt i hi).1)) (Nat.le_refl _); clear h7 k7)
        go_roundw
        case rel => exact ⟨k + 1, q + ys.length, xs ++ ys, by omega, by go_num, HXN, by show _ = _; rw [List.length_append, HQ.out], HO7, HE7⟩
        case measure => simp [intOf]; omega
      · obtain rfl : k = m := by omega
        have HXE : Hid (xs = outM T) := by show _ = _; rw [HX.out, List.take_of_length_le (by rw [HTL.out]; exact Nat.le_refl _)]
        clear HX
        go_wp2
        go_ret2
        exact ⟨_, _, rfl, by rw [HV.out, ← HXE.out, HQ.out]; exact HO.out, by rw [HF.out]; exact rfl, HE.out⟩
end Go.Proofs.YtlaedbglclmheaaGreatDoor
