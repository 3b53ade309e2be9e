/- Contracts of this seat: Pe2, Pe3, Pm1, Pm2, Px1, Px2, Px3. -/
import Derived.Test.YtcekpngkfldgkaaGreatDoorXTk
import Derived.Test.YtcekpngkfldgkaaGreatDoorXZb
import Derived.Test.YtcekpngkfldgkaaGreatDoorXZc
import Derived.Deep.RegionLaw
import Derived.BigRegion
namespace Go.Proofs.YtcekpngkfldgkaaGreatDoor
set_option linter.unusedVariables false
set_option linter.unusedSimpArgs false
open Go.RowKit Go.Extern.Stop Go.Stop Go.Extern
theorem or_u64 {v p t : Nat} (hp : p < 2 ^ t) (hb : v * 2 ^ t + p < 18446744073709551616) : bits .or .u64 ((v * 2 ^ t : Nat) : Int) (p : Int) = ((v * 2 ^ t + p : Nat) : Int) := by
 have e : (BitVec.ofInt 64 ((v * 2 ^ t : Nat) : Int) ||| BitVec.ofInt 64 (p : Int)).toNat = v * 2 ^ t + p := by
  rw [ofInt_nat, ofInt_nat, BitVec.toNat_or, BitVec.toNat_ofNat, BitVec.toNat_ofNat, Nat.mod_eq_of_lt (by omega), Nat.mod_eq_of_lt (by omega), Nat.mul_comm, Nat.two_pow_add_eq_or_of_lt hp]
 show IntKind.u64.wrap (((BitVec.ofInt 64 ((v * 2 ^ t : Nat) : Int) ||| BitVec.ofInt 64 (p : Int)).toNat : Nat) : Int) = _
 rw [e, IntKind.wrap_u64]
 omega
theorem getD_lt {bs : List Nat} (hb : ∀ x ∈ bs, x < 256) (j : Nat) : bs.getD j 0 < 256 := by
 rw [List.getD_eq_getElem?_getD]
 cases e : bs[j]? with
 | none => decide
 | some x => exact hb x (List.mem_of_getElem? e)
set_option maxRecDepth 20000 in
set_option maxHeartbeats 4000000 in
theorem next_any' (F : Nat → Prop) (b : Nat) (bs : List Nat) (s : Dc) (w : World) (h : DcAt F w b bs s) (hp : s.pos ≤ 100000000) : Calls Tryz.prog 147 #[.pointer (some ⟨b, 0, none⟩)] w fun e w' => e = .returned (.int .u64 (bs.getD s.pos 0 : Int)) ∧ w' = w.setCell ⟨b, 1, none⟩ (.int .i64 ((s.pos + 1 : Nat) : Int)) := by
 obtain ⟨a, cap, hB, hY, hF⟩ := h
 have hF2 : ∀ g off, a = some ⟨g, off, none⟩ → g ≠ b := fun g off e => (hF g off e).1
 have hB2 := hB.set1 (s.pos + 1)
 have hY2 : Bys (w.setCell ⟨b, 1, none⟩ (.int .i64 ((s.pos + 1 : Nat) : Int))) (.slice a bs.length cap) bs := ⟨row_kp hY.1 ((Kp.refl b w).set 1 _) hF2, hY.2⟩
 obtain ⟨p, hp'⟩ : ∃ p, s.pos = p := ⟨_, rfl⟩
 obtain ⟨⟨c0, c1, c2, c3, c4⟩, f1, f2, f3, f4⟩ := hB
 rw [hp'] at c1 hp hB2 hY2 ⊢
 obtain ⟨⟨d0, d1, d2, d3, d4⟩, -⟩ := hB2
 obtain ⟨n, hn⟩ : ∃ n, bs.length = n := ⟨_, rfl⟩
 rw [hn] at c0 hY2 d0
 have s1 : IntKind.i64.wrap ((p : Int) + 1) = ((p + 1 : Nat) : Int) := by rw [IntKind.wrap_i64]; omega
 obtain ⟨q, hq⟩ : ∃ q, p + 1 = q := ⟨_, rfl⟩
 rw [hq] at s1 hY2 d0 ⊢
 obtain ⟨x, hx⟩ : ∃ x, bs.getD p 0 = x := ⟨_, rfl⟩
 have hxb : x < 256 := by rw [← hx]; exact getD_lt hY.2.1 p
 rw [hx]
 by_cases hlt : p < n
 · have x1 : ¬ (n : Int) ≤ (p : Int) := by omega
   have x2 : (p : Int) < (n : Int) := by omega
   have x3 : (0 : Int) ≤ (p : Int) := by omega
   obtain ⟨g, off, rfl⟩ := hY2.had (by omega)
   have cx := hY2.at (nget_of_lt (bs := bs) (j := p) (by rw [hn]; exact hlt))
   rw [hx] at cx
   have s2 : IntKind.u64.wrap (x : Int) = (x : Int) := by rw [IntKind.wrap_u64]; omega
   clear hY hY2 hF hF2 hx hn hq hp' d1 d2 d3 d4
   go_enter Tryz.func147, Tryz.ntmps147
   go_wp2
   go_ret
   exact ⟨rfl, rfl⟩
 · have x1 : (n : Int) ≤ (p : Int) := by omega
   have hx0 : x = 0 := by
    rw [← hx, List.getD_eq_getElem?_getD, List.getElem?_eq_none (by omega)]
    rfl
   subst hx0
   clear hY hY2 hF hF2 hx hn hq hp' d1 d2 d3 d4
   go_enter Tryz.func147, Tryz.ntmps147
   go_wp2
   go_ret
   exact ⟨rfl, rfl⟩
theorem mv_u64 {num x : Nat} (hx : x < 256) : ∃ M : Nat, IntKind.u64.wrap ((num : Int) * 256) = (M : Int) ∧ bits .or .u64 (M : Int) (x : Int) = ((num * 256 % 18446744073709551616 + x : Nat) : Int) := by
 refine ⟨num * 256 % 18446744073709551616, by rw [IntKind.wrap_u64]; omega, ?_⟩
 have e : num * 256 % 18446744073709551616 = (num % 72057594037927936) * 2 ^ 8 := by omega
 have := or_u64 (v := num % 72057594037927936) (p := x) (t := 8) (by omega) (by omega)
 rw [e]
 exact this
def DcPost (F : Nat → Prop) (w : World) (b : Nat) (bs : List Nat) (v : Bool) (s : Dc) (e : Ending) (w' : World) : Prop := e = .returned (.bool v) ∧ DcAt F w' b bs s ∧ Kp b w w'
set_option maxRecDepth 20000 in
set_option maxHeartbeats 4000000 in
theorem dpart_any (F : Nat → Prop) (b N wd : Nat) (bs : List Nat) (s : Dc) (w : World) (h : DcAt F w b bs s) (hk : okD N s) (hN : N ≤ 90000000) (h1 : 1 ≤ wd) (h2 : wd < s.wid) : Calls Tryz.prog 209 #[.pointer (some ⟨b, 0, none⟩), .int .u64 (wd : Int)] w (DcPost F w b bs (upD s wd) (parD bs s wd)) := by
 obtain ⟨R, hR⟩ : ∃ R, parD bs s wd = R := ⟨_, rfl⟩
 rw [hR]
 have hok := (midD_ok (w := wd) hk (Nat.le_of_lt h2)).1
 have hwd : 16777216 ≤ (midD s wd).wid * 256 ^ 3 := by
  rw [(midD_ok (w := wd) hk (Nat.le_of_lt h2)).2]
  show 16777216 ≤ _ * 16777216
  split <;> omega
 have HMK : Hid (okD N (midD s wd) ∧ nrmD bs 3 (midD s wd) = R ∧ 16777216 ≤ (midD s wd).wid * 256 ^ 3) := ⟨hok, hR, hwd⟩
 have k4 := hk.2.1
 have k5 := hk.2.2
 clear hok hR hwd
 obtain ⟨a, cap, hB, hY, hF⟩ := h
 have hF9 : ∀ g off, a = some ⟨g, off, none⟩ → g ≠ b := fun g off e => (hF g off e).1
 obtain ⟨U, hU⟩ : ∃ U, s.num = U := ⟨_, rfl⟩
 obtain ⟨d, hd⟩ : ∃ d, s.wid = d := ⟨_, rfl⟩
 obtain ⟨ov, hov⟩ : ∃ ov, s.over = ov := ⟨_, rfl⟩
 cases hup : upD s wd with
 | false =>
   have hM : midD s wd = { s with wid := wd } := by unfold midD; rw [hup]; rfl
   have HA2 : Hid (DcAt F (w.setCell ⟨b, 4, none⟩ (.int .u64 (wd : Int))) b bs { s with wid := wd }) := ⟨a, cap, hB.set4 wd, ⟨row_kp hY.1 ((Kp.refl b w).set 4 _) hF9, hY.2⟩, hF⟩
   have HK2 : Hid (okD N { s with wid := wd } ∧ nrmD bs 3 { s with wid := wd } = R ∧ 16777216 ≤ wd * 256 ^ 3) := by
    have := HMK.out
    rw [hM] at this
    exact this
   have HW2 := Lib.hid ((Kp.refl b w).set 4 (.int .u64 (wd : Int)))
   have hup2 := hup
   unfold upD at hup2
   rw [Bool.or_eq_false_iff, decide_eq_false_iff_not, hov, hU] at hup2
   obtain ⟨rfl, hx⟩ := hup2
   have x1 : ¬ (wd : Int) ≤ (U : Int) := by omega
   obtain ⟨⟨c0, c1, c2, c3, c4⟩, f1, f2, f3, f4⟩ := hB
   rw [hU] at c3
   rw [hov] at c2
   clear hY hF hF9 hk HMK hM hU hd hov hx k4 k5 h1 h2 hup c0 c1
   go_enter Tryz.func209, Tryz.ntmps209
   -- in hand: w2; HA2 : DcAt F w2 b bs s2; HK2 : okD N s2, nrmD bs 3 s2 = R, wide; HW2 : Kp b w w2; the answer up
   go_wp2_with fail
   go_loopg [] (3) (fun f wr => ∃ t : Dc, Hid (DcAt F wr b bs t) ∧ Hid (f ≤ 3 ∧ okD (N + (3 - f)) t ∧ nrmD bs f t = R ∧ 16777216 ≤ t.wid * 256 ^ f) ∧ Hid (Kp b w wr))
   case atStart => exact ⟨_, HA2.out, ⟨Nat.le_refl _, HK2.out⟩, HW2.out⟩
   case round =>
    clear HA2 HK2 HW2
    obtain ⟨t, HA, HK, HW⟩ := hrel
    obtain ⟨a3, cap3, hB3, hY3, hF3⟩ := HA.out
    have k3 : t.wid < 4294967296 := HK.out.2.1.2.2
    obtain ⟨⟨c0, c1, c2, c3, c4⟩, f1, f2, f3, f4⟩ := id hB3
    obtain ⟨D, hD⟩ : ∃ D, t.wid = D := ⟨_, rfl⟩
    obtain ⟨U, hU⟩ : ∃ U, t.num = U := ⟨_, rfl⟩
    rw [hD] at c4 k3
    rw [hU] at c3
    have HD := Lib.hid hD
    by_cases hlt : D < 16777216
    · have x1 : (D : Int) < 16777216 := by omega
      have s1 : IntKind.u64.wrap ((D : Int) * 256) = ((D * 256 : Nat) : Int) := by rw [IntKind.wrap_u64]; omega
      obtain ⟨D2, hD2⟩ : ∃ D2, D * 256 = D2 := ⟨_, rfl⟩
      rw [hD2] at s1
      obtain ⟨j1, j2, j3, j4⟩ := HK.out
      have hp4 : t.pos ≤ 100000000 := by have := j2.1; omega
      have hg : ∃ g, gk = g + 1 := by
       cases gk with
       | zero => exfalso; have := HD.out; simp at j4; omega
       | succ g => exact ⟨g, rfl⟩
      obtain ⟨g, rfl⟩ := hg
      have j5 : nrmD bs g (stpD bs t) = R := by
       rw [← j3]
       show _ = (if t.wid < 16777216 then nrmD bs g (stpD bs t) else t)
       rw [if_pos (by rw [hD]; exact hlt)]
      have j6 : 16777216 ≤ (stpD bs t).wid * 256 ^ g := by
       show 16777216 ≤ t.wid * 256 * 256 ^ g
       rw [Nat.mul_assoc, ← Nat.pow_succ']
       exact j4
      have j7 := stpD_ok hY3.2.1 j2 (by rw [hD]; exact hlt)
      have HJ : Hid (g ≤ 3 ∧ okD (N + (3 - g)) (stpD bs t) ∧ nrmD bs g (stpD bs t) = R ∧ 16777216 ≤ (stpD bs t).wid * 256 ^ g) := ⟨by omega, by rw [show N + (3 - g) = N + (3 - (g + 1)) + 1 by omega]; exact j7, j5, j6⟩
      have UN := Lib.hid (next_any' F b bs t wr.drew (HA.out.ext ((Ext.refl wr).drew)) hp4)
      have HST : Hid (stpD bs t = { pos := t.pos + 1, over := t.over, num := U * 256 % 18446744073709551616 + bs.getD t.pos 0, wid := D2 }) := by show _ = _; unfold stpD; rw [hD, hU, hD2]
      obtain ⟨x, hx⟩ : ∃ x, bs.getD t.pos 0 = x := ⟨_, rfl⟩
      have hx8 : x < 256 := by rw [← hx]; exact getD_lt hY3.2.1 _
      rw [hx] at HST UN
      obtain ⟨M, hM1, hM2⟩ := mv_u64 (num := U) hx8
      obtain ⟨V, hV⟩ : ∃ V, U * 256 % 18446744073709551616 + x = V := ⟨_, rfl⟩
      rw [hV] at HST hM2
      have hBn := ((hB3.ext ((Ext.refl wr).drew)).set1 (t.pos + 1)).set3 V
      have hBm := hBn.set4 D2
      have hYd : Bys wr.drew (.slice a3 bs.length cap3) bs := hY3.ext ((Ext.refl wr).drew)
      have hF9 : ∀ g off, a3 = some ⟨g, off, none⟩ → g ≠ b := fun g off e => (hF3 g off e).1
      have HYf : Hid (Bys (((wr.drew.setCell ⟨b, 1, none⟩ (.int .i64 ((t.pos + 1 : Nat) : Int))).setCell ⟨b, 3, none⟩ (.int .u64 (V : Int))).setCell ⟨b, 4, none⟩ (.int .u64 (D2 : Int))) (.slice a3 bs.length cap3) bs) := ⟨row_kp hYd.1 ((((Kp.refl b wr.drew).set 1 _).set 3 _).set 4 _) hF9, hYd.2⟩
      have HDf : Hid (DcAt F (((wr.drew.setCell ⟨b, 1, none⟩ (.int .i64 ((t.pos + 1 : Nat) : Int))).setCell ⟨b, 3, none⟩ (.int .u64 (V : Int))).setCell ⟨b, 4, none⟩ (.int .u64 (D2 : Int))) b bs (stpD bs t)) := by
       show DcAt _ _ _ _ _
       rw [HST.out]
       exact ⟨a3, cap3, hBm, HYf.out, hF3⟩
      have HKf : Hid (Kp b w (((wr.drew.setCell ⟨b, 1, none⟩ (.int .i64 ((t.pos + 1 : Nat) : Int))).setCell ⟨b, 3, none⟩ (.int .u64 (V : Int))).setCell ⟨b, 4, none⟩ (.int .u64 (D2 : Int)))) := ((((HW.out.ext ((Ext.refl wr).drew)).set 1 _).set 3 _).set 4 _)
      have HN1 := Lib.hid ((hB3.ext ((Ext.refl wr).drew)).set1 (t.pos + 1))
      obtain ⟨⟨-, -, -, n3, -⟩, -, -, m3, -⟩ := id HN1.out
      obtain ⟨⟨-, -, -, -, o4⟩, -, -, -, p4⟩ := hBn
      have n3 : (wr.drew.setCell ⟨b, 1, none⟩ (.int .i64 ((t.pos + 1 : Nat) : Int))).cell? ⟨b, 3, none⟩ = some (.int .u64 (U : Int)) := by rw [← hU]; exact n3
      have o4 : ((wr.drew.setCell ⟨b, 1, none⟩ (.int .i64 ((t.pos + 1 : Nat) : Int))).setCell ⟨b, 3, none⟩ (.int .u64 (V : Int))).cell? ⟨b, 4, none⟩ = some (.int .u64 (D : Int)) := by rw [← hD]; exact o4
      clear hD2 j1 j2 j3 j4 j5 j6 j7 hBm hYd hB3 hY3 hF3 hF9 hV hx hD hU hp4
      go_wp2_with fail
      go_region_law (go_simp; go_at_call 147; refine (UN.out).mono ?_; rintro e w7 ⟨rfl, rfl⟩)
      all_goals go_wp2
      all_goals go_roundg (g)
      all_goals first
       | exact ⟨stpD bs t, HDf.out, HJ.out, HKf.out⟩
       | omega
    · have x1 : ¬ (D : Int) < 16777216 := by omega
      have HR : Hid (t = R) := by
       show _ = _
       rw [← HK.out.2.2.1]
       cases gk with
       | zero => rfl
       | succ g => show _ = (if t.wid < 16777216 then _ else t); rw [if_neg (by rw [HD.out]; exact hlt)]
      clear hB3 hY3 hF3 hD hU
      go_wp2
      go_ret
      exact ⟨rfl, by rw [← HR.out]; exact HA.out, HW.out⟩
 | true =>
   obtain ⟨U2, hU2⟩ : ∃ U2, (U + (18446744073709551616 - wd)) % 18446744073709551616 = U2 := ⟨_, rfl⟩
   obtain ⟨d1, hd1⟩ : ∃ d1, d - wd = d1 := ⟨_, rfl⟩
   rw [hd] at h2 k5
   have hM : midD s wd = { s with num := U2, wid := d1 } := by unfold midD; rw [hup, hU, hd, hU2, hd1]; rfl
   have s1 : IntKind.u64.wrap ((U : Int) - (wd : Int)) = (U2 : Int) := by rw [IntKind.wrap_u64]; omega
   have s2 : IntKind.u64.wrap ((d : Int) - (wd : Int)) = (d1 : Int) := by rw [IntKind.wrap_u64]; omega
   have HA2 : Hid (DcAt F ((w.setCell ⟨b, 3, none⟩ (.int .u64 (U2 : Int))).setCell ⟨b, 4, none⟩ (.int .u64 (d1 : Int))) b bs { s with num := U2, wid := d1 }) := ⟨a, cap, (hB.set3 U2).set4 d1, ⟨row_kp hY.1 (((Kp.refl b w).set 3 _).set 4 _) hF9, hY.2⟩, hF⟩
   have HK2 : Hid (okD N { s with num := U2, wid := d1 } ∧ nrmD bs 3 { s with num := U2, wid := d1 } = R ∧ 16777216 ≤ d1 * 256 ^ 3) := by
    have := HMK.out
    rw [hM] at this
    exact this
   have HW2 := Lib.hid (((Kp.refl b w).set 3 (.int .u64 (U2 : Int))).set 4 (.int .u64 (d1 : Int)))
   have hup2 := hup
   unfold upD at hup2
   rw [hov, hU] at hup2
   obtain ⟨⟨c0, c1, c2, c3, c4⟩, f1, f2, f3, f4⟩ := hB
   rw [hU] at c3
   rw [hov] at c2
   rw [hd] at c4
   cases ov with
   | true =>
     clear hY hF hF9 hk HMK hM hU hd hov k4 k5 h1 h2 hup hup2 c0 c1 hU2 hd1
     go_enter Tryz.func209, Tryz.ntmps209
     -- in hand: w2; HA2 : DcAt F w2 b bs s2; HK2 : okD N s2, nrmD bs 3 s2 = R, wide; HW2 : Kp b w w2; the answer up
     go_wp2_with fail
     go_loopg [] (3) (fun f wr => ∃ t : Dc, Hid (DcAt F wr b bs t) ∧ Hid (f ≤ 3 ∧ okD (N + (3 - f)) t ∧ nrmD bs f t = R ∧ 16777216 ≤ t.wid * 256 ^ f) ∧ Hid (Kp b w wr))
     case atStart => exact ⟨_, HA2.out, ⟨Nat.le_refl _, HK2.out⟩, HW2.out⟩
     case round =>
      clear HA2 HK2 HW2
      obtain ⟨t, HA, HK, HW⟩ := hrel
      obtain ⟨a3, cap3, hB3, hY3, hF3⟩ := HA.out
      have k3 : t.wid < 4294967296 := HK.out.2.1.2.2
      obtain ⟨⟨c0, c1, c2, c3, c4⟩, f1, f2, f3, f4⟩ := id hB3
      obtain ⟨D, hD⟩ : ∃ D, t.wid = D := ⟨_, rfl⟩
      obtain ⟨U, hU⟩ : ∃ U, t.num = U := ⟨_, rfl⟩
      rw [hD] at c4 k3
      rw [hU] at c3
      have HD := Lib.hid hD
      by_cases hlt : D < 16777216
      · have x1 : (D : Int) < 16777216 := by omega
        have s1 : IntKind.u64.wrap ((D : Int) * 256) = ((D * 256 : Nat) : Int) := by rw [IntKind.wrap_u64]; omega
        obtain ⟨D2, hD2⟩ : ∃ D2, D * 256 = D2 := ⟨_, rfl⟩
        rw [hD2] at s1
        obtain ⟨j1, j2, j3, j4⟩ := HK.out
        have hp4 : t.pos ≤ 100000000 := by have := j2.1; omega
        have hg : ∃ g, gk = g + 1 := by
         cases gk with
         | zero => exfalso; have := HD.out; simp at j4; omega
         | succ g => exact ⟨g, rfl⟩
        obtain ⟨g, rfl⟩ := hg
        have j5 : nrmD bs g (stpD bs t) = R := by
         rw [← j3]
         show _ = (if t.wid < 16777216 then nrmD bs g (stpD bs t) else t)
         rw [if_pos (by rw [hD]; exact hlt)]
        have j6 : 16777216 ≤ (stpD bs t).wid * 256 ^ g := by
         show 16777216 ≤ t.wid * 256 * 256 ^ g
         rw [Nat.mul_assoc, ← Nat.pow_succ']
         exact j4
        have j7 := stpD_ok hY3.2.1 j2 (by rw [hD]; exact hlt)
        have HJ : Hid (g ≤ 3 ∧ okD (N + (3 - g)) (stpD bs t) ∧ nrmD bs g (stpD bs t) = R ∧ 16777216 ≤ (stpD bs t).wid * 256 ^ g) := ⟨by omega, by rw [show N + (3 - g) = N + (3 - (g + 1)) + 1 by omega]; exact j7, j5, j6⟩
        have UN := Lib.hid (next_any' F b bs t wr.drew (HA.out.ext ((Ext.refl wr).drew)) hp4)
        have HST : Hid (stpD bs t = { pos := t.pos + 1, over := t.over, num := U * 256 % 18446744073709551616 + bs.getD t.pos 0, wid := D2 }) := by show _ = _; unfold stpD; rw [hD, hU, hD2]
        obtain ⟨x, hx⟩ : ∃ x, bs.getD t.pos 0 = x := ⟨_, rfl⟩
        have hx8 : x < 256 := by rw [← hx]; exact getD_lt hY3.2.1 _
        rw [hx] at HST UN
        obtain ⟨M, hM1, hM2⟩ := mv_u64 (num := U) hx8
        obtain ⟨V, hV⟩ : ∃ V, U * 256 % 18446744073709551616 + x = V := ⟨_, rfl⟩
        rw [hV] at HST hM2
        have hBn := ((hB3.ext ((Ext.refl wr).drew)).set1 (t.pos + 1)).set3 V
        have hBm := hBn.set4 D2
        have hYd : Bys wr.drew (.slice a3 bs.length cap3) bs := hY3.ext ((Ext.refl wr).drew)
        have hF9 : ∀ g off, a3 = some ⟨g, off, none⟩ → g ≠ b := fun g off e => (hF3 g off e).1
        have HYf : Hid (Bys (((wr.drew.setCell ⟨b, 1, none⟩ (.int .i64 ((t.pos + 1 : Nat) : Int))).setCell ⟨b, 3, none⟩ (.int .u64 (V : Int))).setCell ⟨b, 4, none⟩ (.int .u64 (D2 : Int))) (.slice a3 bs.length cap3) bs) := ⟨row_kp hYd.1 ((((Kp.refl b wr.drew).set 1 _).set 3 _).set 4 _) hF9, hYd.2⟩
        have HDf : Hid (DcAt F (((wr.drew.setCell ⟨b, 1, none⟩ (.int .i64 ((t.pos + 1 : Nat) : Int))).setCell ⟨b, 3, none⟩ (.int .u64 (V : Int))).setCell ⟨b, 4, none⟩ (.int .u64 (D2 : Int))) b bs (stpD bs t)) := by
         show DcAt _ _ _ _ _
         rw [HST.out]
         exact ⟨a3, cap3, hBm, HYf.out, hF3⟩
        have HKf : Hid (Kp b w (((wr.drew.setCell ⟨b, 1, none⟩ (.int .i64 ((t.pos + 1 : Nat) : Int))).setCell ⟨b, 3, none⟩ (.int .u64 (V : Int))).setCell ⟨b, 4, none⟩ (.int .u64 (D2 : Int)))) := ((((HW.out.ext ((Ext.refl wr).drew)).set 1 _).set 3 _).set 4 _)
        have HN1 := Lib.hid ((hB3.ext ((Ext.refl wr).drew)).set1 (t.pos + 1))
        obtain ⟨⟨-, -, -, n3, -⟩, -, -, m3, -⟩ := id HN1.out
        obtain ⟨⟨-, -, -, -, o4⟩, -, -, -, p4⟩ := hBn
        have n3 : (wr.drew.setCell ⟨b, 1, none⟩ (.int .i64 ((t.pos + 1 : Nat) : Int))).cell? ⟨b, 3, none⟩ = some (.int .u64 (U : Int)) := by rw [← hU]; exact n3
        have o4 : ((wr.drew.setCell ⟨b, 1, none⟩ (.int .i64 ((t.pos + 1 : Nat) : Int))).setCell ⟨b, 3, none⟩ (.int .u64 (V : Int))).cell? ⟨b, 4, none⟩ = some (.int .u64 (D : Int)) := by rw [← hD]; exact o4
        clear hD2 j1 j2 j3 j4 j5 j6 j7 hBm hYd hB3 hY3 hF3 hF9 hV hx hD hU hp4
        go_wp2_with fail
        go_region_law (go_simp; go_at_call 147; refine (UN.out).mono ?_; rintro e w7 ⟨rfl, rfl⟩)
        all_goals go_wp2
        all_goals go_roundg (g)
        all_goals first
         | exact ⟨stpD bs t, HDf.out, HJ.out, HKf.out⟩
         | omega
      · have x1 : ¬ (D : Int) < 16777216 := by omega
        have HR : Hid (t = R) := by
         show _ = _
         rw [← HK.out.2.2.1]
         cases gk with
         | zero => rfl
         | succ g => show _ = (if t.wid < 16777216 then _ else t); rw [if_neg (by rw [HD.out]; exact hlt)]
        clear hB3 hY3 hF3 hD hU
        go_wp2
        go_ret
        exact ⟨rfl, by rw [← HR.out]; exact HA.out, HW.out⟩
   | false =>
     have hx : wd ≤ U := by simpa using hup2
     have x1 : (wd : Int) ≤ (U : Int) := by omega
     clear hY hF hF9 hk HMK hM hU hd hov hx k4 k5 h1 h2 hup hup2 c0 c1 hU2 hd1
     go_enter Tryz.func209, Tryz.ntmps209
     -- in hand: w2; HA2 : DcAt F w2 b bs s2; HK2 : okD N s2, nrmD bs 3 s2 = R, wide; HW2 : Kp b w w2; the answer up
     go_wp2_with fail
     go_loopg [] (3) (fun f wr => ∃ t : Dc, Hid (DcAt F wr b bs t) ∧ Hid (f ≤ 3 ∧ okD (N + (3 - f)) t ∧ nrmD bs f t = R ∧ 16777216 ≤ t.wid * 256 ^ f) ∧ Hid (Kp b w wr))
     case atStart => exact ⟨_, HA2.out, ⟨Nat.le_refl _, HK2.out⟩, HW2.out⟩
     case round =>
      clear HA2 HK2 HW2
      obtain ⟨t, HA, HK, HW⟩ := hrel
      obtain ⟨a3, cap3, hB3, hY3, hF3⟩ := HA.out
      have k3 : t.wid < 4294967296 := HK.out.2.1.2.2
      obtain ⟨⟨c0, c1, c2, c3, c4⟩, f1, f2, f3, f4⟩ := id hB3
      obtain ⟨D, hD⟩ : ∃ D, t.wid = D := ⟨_, rfl⟩
      obtain ⟨U, hU⟩ : ∃ U, t.num = U := ⟨_, rfl⟩
      rw [hD] at c4 k3
      rw [hU] at c3
      have HD := Lib.hid hD
      by_cases hlt : D < 16777216
      · have x1 : (D : Int) < 16777216 := by omega
        have s1 : IntKind.u64.wrap ((D : Int) * 256) = ((D * 256 : Nat) : Int) := by rw [IntKind.wrap_u64]; omega
        obtain ⟨D2, hD2⟩ : ∃ D2, D * 256 = D2 := ⟨_, rfl⟩
        rw [hD2] at s1
        obtain ⟨j1, j2, j3, j4⟩ := HK.out
        have hp4 : t.pos ≤ 100000000 := by have := j2.1; omega
        have hg : ∃ g, gk = g + 1 := by
         cases gk with
         | zero => exfalso; have := HD.out; simp at j4; omega
         | succ g => exact ⟨g, rfl⟩
        obtain ⟨g, rfl⟩ := hg
        have j5 : nrmD bs g (stpD bs t) = R := by
         rw [← j3]
         show _ = (if t.wid < 16777216 then nrmD bs g (stpD bs t) else t)
         rw [if_pos (by rw [hD]; exact hlt)]
        have j6 : 16777216 ≤ (stpD bs t).wid * 256 ^ g := by
         show 16777216 ≤ t.wid * 256 * 256 ^ g
         rw [Nat.mul_assoc, ← Nat.pow_succ']
         exact j4
        have j7 := stpD_ok hY3.2.1 j2 (by rw [hD]; exact hlt)
        have HJ : Hid (g ≤ 3 ∧ okD (N + (3 - g)) (stpD bs t) ∧ nrmD bs g (stpD bs t) = R ∧ 16777216 ≤ (stpD bs t).wid * 256 ^ g) := ⟨by omega, by rw [show N + (3 - g) = N + (3 - (g + 1)) + 1 by omega]; exact j7, j5, j6⟩
        have UN := Lib.hid (next_any' F b bs t wr.drew (HA.out.ext ((Ext.refl wr).drew)) hp4)
        have HST : Hid (stpD bs t = { pos := t.pos + 1, over := t.over, num := U * 256 % 18446744073709551616 + bs.getD t.pos 0, wid := D2 }) := by show _ = _; unfold stpD; rw [hD, hU, hD2]
        obtain ⟨x, hx⟩ : ∃ x, bs.getD t.pos 0 = x := ⟨_, rfl⟩
        have hx8 : x < 256 := by rw [← hx]; exact getD_lt hY3.2.1 _
        rw [hx] at HST UN
        obtain ⟨M, hM1, hM2⟩ := mv_u64 (num := U) hx8
        obtain ⟨V, hV⟩ : ∃ V, U * 256 % 18446744073709551616 + x = V := ⟨_, rfl⟩
        rw [hV] at HST hM2
        have hBn := ((hB3.ext ((Ext.refl wr).drew)).set1 (t.pos + 1)).set3 V
        have hBm := hBn.set4 D2
        have hYd : Bys wr.drew (.slice a3 bs.length cap3) bs := hY3.ext ((Ext.refl wr).drew)
        have hF9 : ∀ g off, a3 = some ⟨g, off, none⟩ → g ≠ b := fun g off e => (hF3 g off e).1
        have HYf : Hid (Bys (((wr.drew.setCell ⟨b, 1, none⟩ (.int .i64 ((t.pos + 1 : Nat) : Int))).setCell ⟨b, 3, none⟩ (.int .u64 (V : Int))).setCell ⟨b, 4, none⟩ (.int .u64 (D2 : Int))) (.slice a3 bs.length cap3) bs) := ⟨row_kp hYd.1 ((((Kp.refl b wr.drew).set 1 _).set 3 _).set 4 _) hF9, hYd.2⟩
        have HDf : Hid (DcAt F (((wr.drew.setCell ⟨b, 1, none⟩ (.int .i64 ((t.pos + 1 : Nat) : Int))).setCell ⟨b, 3, none⟩ (.int .u64 (V : Int))).setCell ⟨b, 4, none⟩ (.int .u64 (D2 : Int))) b bs (stpD bs t)) := by
         show DcAt _ _ _ _ _
         rw [HST.out]
         exact ⟨a3, cap3, hBm, HYf.out, hF3⟩
        have HKf : Hid (Kp b w (((wr.drew.setCell ⟨b, 1, none⟩ (.int .i64 ((t.pos + 1 : Nat) : Int))).setCell ⟨b, 3, none⟩ (.int .u64 (V : Int))).setCell ⟨b, 4, none⟩ (.int .u64 (D2 : Int)))) := ((((HW.out.ext ((Ext.refl wr).drew)).set 1 _).set 3 _).set 4 _)
        have HN1 := Lib.hid ((hB3.ext ((Ext.refl wr).drew)).set1 (t.pos + 1))
        obtain ⟨⟨-, -, -, n3, -⟩, -, -, m3, -⟩ := id HN1.out
        obtain ⟨⟨-, -, -, -, o4⟩, -, -, -, p4⟩ := hBn
        have n3 : (wr.drew.setCell ⟨b, 1, none⟩ (.int .i64 ((t.pos + 1 : Nat) : Int))).cell? ⟨b, 3, none⟩ = some (.int .u64 (U : Int)) := by rw [← hU]; exact n3
        have o4 : ((wr.drew.setCell ⟨b, 1, none⟩ (.int .i64 ((t.pos + 1 : Nat) : Int))).setCell ⟨b, 3, none⟩ (.int .u64 (V : Int))).cell? ⟨b, 4, none⟩ = some (.int .u64 (D : Int)) := by rw [← hD]; exact o4
        clear hD2 j1 j2 j3 j4 j5 j6 j7 hBm hYd hB3 hY3 hF3 hF9 hV hx hD hU hp4
        go_wp2_with fail
        go_region_law (go_simp; go_at_call 147; refine (UN.out).mono ?_; rintro e w7 ⟨rfl, rfl⟩)
        all_goals go_wp2
        all_goals go_roundg (g)
        all_goals first
         | exact ⟨stpD bs t, HDf.out, HJ.out, HKf.out⟩
         | omega
      · have x1 : ¬ (D : Int) < 16777216 := by omega
        have HR : Hid (t = R) := by
         show _ = _
         rw [← HK.out.2.2.1]
         cases gk with
         | zero => rfl
         | succ g => show _ = (if t.wid < 16777216 then _ else t); rw [if_neg (by rw [HD.out]; exact hlt)]
        clear hB3 hY3 hF3 hD hU
        go_wp2
        go_ret
        exact ⟨rfl, by rw [← HR.out]; exact HA.out, HW.out⟩
set_option maxRecDepth 20000 in
set_option maxHeartbeats 4000000 in
theorem dflat_any (F : Nat → Prop) (b N : Nat) (bs : List Nat) (s : Dc) (w : World) (h : DcAt F w b bs s) (hk : okD N s) (hN : N ≤ 90000000) (hw : 16777216 ≤ s.wid) : Calls Tryz.prog 207 #[.pointer (some ⟨b, 0, none⟩)] w (DcPost F w b bs (upD s (s.wid / 2)) (parD bs s (s.wid / 2))) := by
 have UP := Lib.hid (dpart_any F b N (s.wid / 2) bs s w h hk hN (by omega) (by omega))
 obtain ⟨a, cap, ⟨⟨c0, c1, c2, c3, c4⟩, f1, f2, f3, f4⟩, -, -⟩ := h
 obtain ⟨R, hR⟩ : ∃ R, parD bs s (s.wid / 2) = R := ⟨_, rfl⟩
 obtain ⟨V, hV⟩ : ∃ V, upD s (s.wid / 2) = V := ⟨_, rfl⟩
 rw [hR, hV] at UP ⊢
 have hd4 := hk.2.2
 obtain ⟨d, hd⟩ : ∃ d, s.wid = d := ⟨_, rfl⟩
 rw [hd] at c4 UP hd4
 obtain ⟨q, hq⟩ : ∃ q, d / 2 = q := ⟨_, rfl⟩
 have s1 : Int.tdiv (d : Int) 2 = (q : Int) := by rw [← hq, show (2 : Int) = ((2 : Nat) : Int) from rfl, Int.ofNat_tdiv]
 have s2 : IntKind.u64.wrap (q : Int) = (q : Int) := by rw [IntKind.wrap_u64]; omega
 rw [hq] at UP
 clear hR hV hd hq hk hw c0 c1 c2 c3
 go_enter Tryz.func207, Tryz.ntmps207
 go_wp2_with fail
 refine (UP.out).mono ?_; rintro e w7 ⟨rfl, hA7, hW7⟩
 go_wp2
 go_ret
 exact ⟨rfl, hA7, hW7⟩
def codU (s : Dc) (p : Int) : Bool := if chance p then upD s (s.wid / 2048 * p.toNat) else false
def codD (bs : List Nat) (s : Dc) (p : Int) : Dc := if chance p then parD bs s (s.wid / 2048 * p.toNat) else s
def DkPost (F : Nat → Prop) (w : World) (b : Nat) (bs : List Nat) (p : Int) (v : Bool) (s : Dc) (e : Ending) (w' : World) : Prop := ∃ x, e = .returned (.tuple #[.bool v, x]) ∧ ErrIs w' (if chance p then none else some ([], 3)) x ∧ DcAt F w' b bs s ∧ Kp b w w'
set_option maxRecDepth 20000 in
set_option maxHeartbeats 4000000 in
theorem dcode_any (F : Nat → Prop) (b N : Nat) (p : Int) (bs : List Nat) (s : Dc) (w : World) (h : DcAt F w b bs s) (hk : okD N s) (hN : N ≤ 90000000) (hw : 16777216 ≤ s.wid) : Calls Tryz.prog 205 #[.pointer (some ⟨b, 0, none⟩), .int .i64 p] w (DkPost F w b bs p (codU s p) (codD bs s p)) := by
 by_cases hc : chance p = true
 · have HF : Hid ((if chance p then none else some ([], 3) : Fall) = none) := if_pos hc
   have HS : Hid (codD bs s p = parD bs s (s.wid / 2048 * p.toNat)) := if_pos hc
   have HV : Hid (codU s p = upD s (s.wid / 2048 * p.toNat)) := if_pos hc
   have hc2 := hc
   unfold chance at hc2
   rw [Bool.and_eq_true, decide_eq_true_iff, decide_eq_true_iff] at hc2
   obtain ⟨n, rfl⟩ : ∃ n : Nat, p = (n : Int) := ⟨p.toNat, by omega⟩
   have hn : ((n : Int)).toNat = n := by omega
   rw [hn] at HS HV
   obtain ⟨d, hd⟩ : ∃ d, s.wid = d := ⟨_, rfl⟩
   obtain ⟨q, hq⟩ : ∃ q, d / 2048 = q := ⟨_, rfl⟩
   obtain ⟨W, hW⟩ : ∃ W, q * n = W := ⟨_, rfl⟩
   have hd4 : d < 4294967296 := by rw [← hd]; exact hk.2.2
   have h1 : q * n ≤ q * 2047 := Nat.mul_le_mul_left q (by omega)
   have h2 : q * 1 ≤ q * n := Nat.mul_le_mul_left q (by omega)
   have UP := Lib.hid (dpart_any F b N W bs s w h hk hN (by omega) (by omega))
   rw [hd, hq, hW] at HS HV
   rw [← HS.out, ← HV.out] at UP
   have s1 : Int.tdiv (d : Int) 2048 = (q : Int) := by rw [← hq, show (2048 : Int) = ((2048 : Nat) : Int) from rfl, Int.ofNat_tdiv]
   have s2 : IntKind.u64.wrap (q : Int) = (q : Int) := by rw [IntKind.wrap_u64]; omega
   have s3 : IntKind.u64.wrap (n : Int) = (n : Int) := by rw [IntKind.wrap_u64]; omega
   have s4 : IntKind.u64.wrap ((q : Int) * (n : Int)) = (W : Int) := by rw [← Int.natCast_mul, hW, IntKind.wrap_u64]; omega
   obtain ⟨a, cap, ⟨⟨c0, c1, c2, c3, c4⟩, f1, f2, f3, f4⟩, -, -⟩ := h
   rw [hd] at c4
   have HCH := Lib.hid hc
   obtain ⟨R, hR⟩ : ∃ R, codD bs s (n : Int) = R := ⟨_, rfl⟩
   obtain ⟨V, hV⟩ : ∃ V, codU s (n : Int) = V := ⟨_, rfl⟩
   rw [hR, hV] at UP ⊢
   clear hR hV HS HV hn hc2 hd hq hW hk hw h1 h2 c0 c1 c2 c3 hc
   go_enter Tryz.func205, Tryz.ntmps205
   go_wp2_with fail
   refine (ischance_any _ _).mono ?_; rintro e w1 ⟨rfl, rfl⟩
   rw [HCH.out]
   go_wp2_with fail
   refine (UP.out).mono ?_; rintro e w7 ⟨rfl, hA7, hW7⟩
   go_wp2
   go_ret2
   exact ⟨_, rfl, by rw [HF.out]; rfl, hA7, hW7⟩
 · have hc : chance p = false := by simpa using hc
   have HF : Hid ((if chance p then none else some ([], 3) : Fall) = some ([], 3)) := by show _ = _; rw [hc]; rfl
   have HS : Hid (codD bs s p = s) := by show (if chance p then _ else _) = _; rw [hc]; rfl
   have HV : Hid (codU s p = false) := by show (if chance p then _ else _) = _; rw [hc]; rfl
   have HA := Lib.hid h
   have HCH := Lib.hid hc
   clear h hk hw hc
   go_enter Tryz.func205, Tryz.ntmps205
   go_wp2_with fail
   refine (ischance_any _ _).mono ?_; rintro e w1 ⟨rfl, rfl⟩
   rw [HCH.out]
   go_wp2
   go_ret2
   exact ⟨_, by rw [HV.out]; rfl, by rw [HF.out]; exact ErrIs.code (by decide), by rw [HS.out]; exact HA.out, Kp.refl _ _⟩
def mvD (bs : List Nat) (s : Dc) : Dc := { s with pos := s.pos + 1, num := s.num * 256 % 18446744073709551616 + bs.getD s.pos 0 }
def mvN (bs : List Nat) : Nat → Dc
 | 0 => ⟨0, false, 0, 4294967295⟩
 | k + 1 => mvD bs (mvN bs k)
def newD (bs : List Nat) : Dc := { mvN bs 4 with over := decide (4294967295 ≤ (mvN bs 4).num) }
theorem mvN_is (bs : List Nat) (hb : ∀ x ∈ bs, x < 256) (k : Nat) (hk : k ≤ 4) : (mvN bs k).pos = k ∧ (mvN bs k).over = false ∧ (mvN bs k).wid = 4294967295 ∧ (mvN bs k).num < 256 ^ k := by
 induction k with
 | zero => exact ⟨rfl, rfl, rfl, Nat.one_pos⟩
 | succ k ih =>
   obtain ⟨h1, h2, h3, h4⟩ := ih (by omega)
   refine ⟨by show (mvN bs k).pos + 1 = k + 1; rw [h1], h2, h3, ?_⟩
   show (mvN bs k).num * 256 % 18446744073709551616 + bs.getD (mvN bs k).pos 0 < 256 ^ (k + 1)
   have hx := getD_lt hb (mvN bs k).pos
   have h5 : (mvN bs k).num * 256 % 18446744073709551616 ≤ (mvN bs k).num * 256 := Nat.mod_le _ _
   rw [Nat.pow_succ]
   omega
theorem newD_ok {bs : List Nat} (hb : ∀ x ∈ bs, x < 256) : okD 4 (newD bs) ∧ (newD bs).wid = 4294967295 ∧ (newD bs).num < 4294967296 ∧ (newD bs).pos = 4 := by
 obtain ⟨h1, h2, h3, h4⟩ := mvN_is bs hb 4 (Nat.le_refl _)
 have h4 : (mvN bs 4).num < 4294967296 := h4
 exact ⟨⟨by show (mvN bs 4).pos ≤ 4; omega, by show (mvN bs 4).num < _; omega, by show (mvN bs 4).wid < _; omega⟩, h3, h4, h1⟩
def NdPost (w : World) (bs : List Nat) (e : Ending) (w' : World) : Prop := ∃ b, e = .returned (.pointer (some ⟨b, 0, none⟩)) ∧ w.heap.size ≤ b ∧ DcAt (fun g => g < w.heap.size ∨ w'.heap.size ≤ g) w' b bs (newD bs) ∧ Ext w w'
set_option maxRecDepth 20000 in
set_option maxHeartbeats 4000000 in
theorem newdc_any (bs : List Nat) (v : Value) (w : World) (h : Bys w v bs) : Calls Tryz.prog 107 #[v] w (NdPost w bs) := by
 have UC := Lib.hid (clb_any bs v w h)
 have HBB := Lib.hid h.2
 clear h
 go_enter Tryz.func107, Tryz.ntmps107
 go_wp2_with fail
 refine (UC.out).mono ?_; rintro e w1 ⟨u, rfl, ho, hx1⟩
 have hy := Bys.of_owns ho HBB.out.1 HBB.out.2
 obtain ⟨a, cap, rfl⟩ := hy.form
 have hg : ∀ g off, a = some ⟨g, off, none⟩ → w.heap.size ≤ g ∧ g < w1.heap.size := fun g off ha => by
  subst ha
  exact ho.lt g rfl
 obtain ⟨B, hB⟩ : ∃ B, w1.heap.size = B := ⟨_, rfl⟩
 have hBw : w.heap.size ≤ B := by rw [← hB]; exact hx1.size
 have HD0 : Hid (DcAt (fun g => g < w.heap.size ∨ B + 1 ≤ g) (w1.alloc (.cells #[.slice a bs.length cap, .int .i64 0, .bool false, .int .u64 0, .int .u64 4294967295] 222)) B bs (mvN bs 0)) := by
  subst hB
  exact ⟨a, cap, ⟨⟨by simp, by simp [mvN], by simp [mvN], by simp [mvN], by simp [mvN]⟩, by simp, by simp, by simp, by simp⟩, hy.ext ((Ext.refl _).alloc _), fun g off ha => by have := hg g off ha; omega⟩
 have HX0 := Lib.hid (hx1.alloc (.cells #[.slice a bs.length cap, .int .i64 0, .bool false, .int .u64 0, .int .u64 4294967295] 222))
 have HS0 : Hid ((w1.alloc (.cells #[.slice a bs.length cap, .int .i64 0, .bool false, .int .u64 0, .int .u64 4294967295] 222)).heap.size = B + 1) := by show _ = _; simp [hB]
 have HBw := Lib.hid hBw
 clear ho hy hg hx1
 go_wp2_with fail
 clear hB
 go_loopw [8] (fun iv wr => ∃ k : Nat, k ≤ 4 ∧ iv = .int .i64 (k : Int) ∧ Hid (DcAt (fun g => g < w.heap.size ∨ B + 1 ≤ g) wr B bs (mvN bs k)) ∧ Hid (Ext w wr) ∧ Hid (wr.heap.size = B + 1)) (fun iv _ => 4 - (intOf iv).toNat)
 case atStart => exact ⟨0, Nat.zero_le _, rfl, HD0.out, HX0.out, HS0.out⟩
 case round =>
  clear HD0 HX0 HS0
  obtain ⟨k, hk, rfl, HD, HX, HS⟩ := hrel
  obtain ⟨a3, cap3, hB3, hY3, hF3⟩ := HD.out
  obtain ⟨m1, m2, m3, m4⟩ := mvN_is bs HBB.out.1 k hk
  obtain ⟨t, ht⟩ : ∃ t, mvN bs k = t := ⟨_, rfl⟩
  rw [ht] at hB3 m1 m2 m3 m4
  obtain ⟨U, hU⟩ : ∃ U, t.num = U := ⟨_, rfl⟩
  obtain ⟨⟨c0, c1, c2, c3, c4⟩, f1, f2, f3, f4⟩ := id hB3
  rw [hU] at c3
  rw [m3] at c4
  have hF9 : ∀ g off, a3 = some ⟨g, off, none⟩ → g ≠ B := fun g off e => (hF3 g off e).1
  by_cases hlt : k < 4
  · have UN := Lib.hid (next_any' (fun g => g < w.heap.size ∨ B + 1 ≤ g) B bs t wr.drew (by rw [← ht]; exact HD.out.ext ((Ext.refl wr).drew)) (by omega))
    obtain ⟨x, hx⟩ : ∃ x, bs.getD t.pos 0 = x := ⟨_, rfl⟩
    have hx8 : x < 256 := by rw [← hx]; exact getD_lt hY3.2.1 _
    rw [hx] at UN
    obtain ⟨M, hM1, hM2⟩ := mv_u64 (num := U) hx8
    obtain ⟨V, hV⟩ : ∃ V, U * 256 % 18446744073709551616 + x = V := ⟨_, rfl⟩
    rw [hV] at hM2
    have HST : Hid (mvN bs (k + 1) = { t with pos := t.pos + 1, num := V }) := by
     show mvD bs (mvN bs k) = _
     rw [ht]
     unfold mvD
     rw [hU, hx, hV]
    have hBn := ((hB3.ext ((Ext.refl wr).drew)).set1 (t.pos + 1))
    have hBm := hBn.set3 V
    have hYd : Bys wr.drew (.slice a3 bs.length cap3) bs := hY3.ext ((Ext.refl wr).drew)
    have HDf : Hid (DcAt (fun g => g < w.heap.size ∨ B + 1 ≤ g) ((wr.drew.setCell ⟨B, 1, none⟩ (.int .i64 ((t.pos + 1 : Nat) : Int))).setCell ⟨B, 3, none⟩ (.int .u64 (V : Int))) B bs (mvN bs (k + 1))) := by
     show DcAt _ _ _ _ _
     rw [HST.out]
     exact ⟨a3, cap3, hBm, ⟨row_kp hYd.1 (((Kp.refl B wr.drew).set 1 _).set 3 _) hF9, hYd.2⟩, hF3⟩
    have HXf : Hid (Ext w ((wr.drew.setCell ⟨B, 1, none⟩ (.int .i64 ((t.pos + 1 : Nat) : Int))).setCell ⟨B, 3, none⟩ (.int .u64 (V : Int)))) := (HX.out.drew.setCell (p := ⟨B, 1, none⟩) HBw.out _).setCell (p := ⟨B, 3, none⟩) HBw.out _
    have HSf : Hid (((wr.drew.setCell ⟨B, 1, none⟩ (.int .i64 ((t.pos + 1 : Nat) : Int))).setCell ⟨B, 3, none⟩ (.int .u64 (V : Int))).heap.size = B + 1) := by show _ = _; have := HS.out; simpa using this
    obtain ⟨⟨-, -, -, n3, -⟩, -, -, p3, -⟩ := hBn
    have n3 : (wr.drew.setCell ⟨B, 1, none⟩ (.int .i64 ((t.pos + 1 : Nat) : Int))).cell? ⟨B, 3, none⟩ = some (.int .u64 (U : Int)) := by rw [← hU]; exact n3
    have x1 : (k : Int) < 4 := by omega
    clear hBm hYd hB3 hY3 hF3 hF9 hV hx hU ht c0 c1 c2 c4 f1 f2 f4 hx8 m1 m2 m3 m4
    go_wp2_with fail
    go_region_law (go_simp; go_at_call 147; refine (UN.out).mono ?_; rintro e w7 ⟨rfl, rfl⟩)
    all_goals go_wp2
    all_goals go_roundw
    all_goals first
     | exact ⟨k + 1, by omega, by go_num, HDf.out, HXf.out, HSf.out⟩
     | (simp [intOf]; omega)
  · have hk4 : k = 4 := by omega
    have x1 : ¬ (k : Int) < 4 := by omega
    have hKK : decide (4294967295 ≤ U) = decide ((4294967295 : Int) ≤ (U : Int)) := decide_eq_decide.2 (by omega)
    have HNW : Hid (newD bs = { t with over := decide ((4294967295 : Int) ≤ (U : Int)) }) := by
     show ({ mvN bs 4 with over := decide (4294967295 ≤ (mvN bs 4).num) } : Dc) = _
     rw [← hk4, ht, show decide (4294967295 ≤ t.num) = decide (4294967295 ≤ U) by rw [hU], hKK]
    obtain ⟨K, hK⟩ : ∃ K, decide ((4294967295 : Int) ≤ (U : Int)) = K := ⟨_, rfl⟩
    rw [hK] at HNW
    have hBm := hB3.set2 K
    have D9 : Ext (wr.setCell ⟨B, 2, none⟩ (.bool K)) (wr.setCell ⟨B, 2, none⟩ (.bool K)).drew := (Ext.refl _).drew
    have hDf : DcAt (fun g => g < w.heap.size ∨ (wr.setCell ⟨B, 2, none⟩ (.bool K)).drew.heap.size ≤ g) (wr.setCell ⟨B, 2, none⟩ (.bool K)) B bs { t with over := K } := ⟨a3, cap3, hBm, ⟨row_kp hY3.1 ((Kp.refl B wr).set 2 _) hF9, hY3.2⟩, fun g off e => ⟨(hF3 g off e).1, fun h9 => (hF3 g off e).2 (by have := HS.out; simp at h9; omega)⟩⟩
    have HDf := Lib.hid (hDf.ext D9)
    have HXf : Hid (Ext w (wr.setCell ⟨B, 2, none⟩ (.bool K)).drew) := (HX.out.setCell (p := ⟨B, 2, none⟩) HBw.out _).drew
    clear hBm hB3 hY3 hF3 hF9 hU ht m1 m2 m3 m4 c0 c1 hk4 hDf D9 hKK
    go_wp2_with fail
    go_region
    go_wp2
    go_ret
    exact ⟨B, rfl, HBw.out, by show DcAt _ _ _ _ _; rw [HNW.out]; exact HDf.out, HXf.out⟩
theorem part_of {d n : Nat} (hd : 16777216 ≤ d) (h1 : 1 ≤ n) (h2 : n < 2048) : 1 ≤ d / 2048 * n ∧ d / 2048 * n < d := by
 have a := Nat.mul_le_mul_left (d / 2048) (show n ≤ 2047 by omega)
 have b := Nat.mul_le_mul_left (d / 2048) h1
 omega
theorem chance_nat {p : Int} (h : chance p = true) : 1 ≤ p.toNat ∧ p.toNat < 2048 := by
 unfold chance at h
 rw [Bool.and_eq_true, decide_eq_true_iff, decide_eq_true_iff] at h
 omega
def hI (s : Ec) : Prop := (-1 ≤ s.held ∧ s.held ≤ 255) ∧ (s.held = -1 ∨ s.held = 255 → s.low + s.wid ≤ 4294967296) ∧ s.low < 4294967296 ∧ s.wid < 4294967296
def pn (bs : List Nat) : Nat → Nat
 | 0 => 0
 | m + 1 => pn bs m * 256 + bs.getD m 0
theorem codD_ok {bs : List Nat} (hb : ∀ x ∈ bs, x < 256) {N : Nat} {p : Int} {s : Dc} (hk : okD N s) (hw : 16777216 ≤ s.wid) : okD (N + 3) (codD bs s p) ∧ 16777216 ≤ (codD bs s p).wid := by
 unfold codD
 split
 · rename_i hc
   obtain ⟨c1, c2⟩ := chance_nat hc
   obtain ⟨a, b⟩ := part_of hw c1 c2
   exact parD_ok hb hk a b
 · exact ⟨hk.mono (by omega), hw⟩
theorem flaD_ok {bs : List Nat} (hb : ∀ x ∈ bs, x < 256) {N : Nat} {s : Dc} (hk : okD N s) (hw : 16777216 ≤ s.wid) : okD (N + 3) (parD bs s (s.wid / 2)) ∧ 16777216 ≤ (parD bs s (s.wid / 2)).wid := parD_ok hb hk (by omega) (by omega)
section
variable {w w' : World} {b : Nat} {v : Value} {r : Nat}
end
end Go.Proofs.YtcekpngkfldgkaaGreatDoor