/- Contracts of this seat: Cf0, Cf1, Cf2, Cf3, Cf4, Cf5, Cf6, Cf8, CfP, CfH, Cf7, CfS. -/
import Derived.Test.YtcekpngkfldgkaaGreatDoorXTk
import Derived.Test.YtcekpngkfldgkaaGreatDoorXZi
import Derived.StillTailTactics
import Derived.Test.YtcekpngkfldgkaaGreatDoorXZj
import Derived.Test.YtcekpngkfldgkaaGreatDoorXZb
namespace Go.Proofs.YtcekpngkfldgkaaGreatDoor
set_option linter.unusedVariables false
set_option linter.unusedSimpArgs false
open Go.RowKit Go.Extern.Stop Go.Stop Go.Extern
def bitAt (u : Int) (k : Nat) : Bool := decide (u / (2 : Int) ^ k % 2 = 1)
def geAt (u : Int) (z : Nat) : Bool := decide ((2 : Int) ^ (z + 1) ≤ u)
section
variable {σ : Type}
def rzM (M : Mc σ) (u : Int) : Nat → Nat → Ms σ → Nat × Ms σ
 | 0, z, s => (z, s)
 | f + 1, z, s => if (flaM M s (geAt u z)).1 then rzM M u f (z + 1) (flaM M s (geAt u z)).2 else (z, (flaM M s (geAt u z)).2)
def rbM (M : Mc σ) (u : Int) : Nat → Nat → Ms σ → Nat × Ms σ
 | 0, c, s => (c, s)
 | k + 1, c, s => rbM M u k (2 * c + if (flaM M s (bitAt u k)).1 then 1 else 0) (flaM M s (bitAt u k)).2
def rstM (M : Mc σ) (u : Int) (s : Ms σ) : Nat × Ms σ := rbM M u (rzM M u 13 0 s).1 1 (rzM M u 13 0 s).2
theorem rz_yes {M : Mc σ} {u : Int} {f z : Nat} {s s1 : Ms σ} (h : flaM M s (geAt u z) = (true, s1)) : rzM M u (f + 1) z s = rzM M u f (z + 1) s1 := by
 show (if _ = true then _ else _) = _
 rw [h]
 rfl
theorem rz_no {M : Mc σ} {u : Int} {f z : Nat} {s s1 : Ms σ} (h : flaM M s (geAt u z) = (false, s1)) : rzM M u (f + 1) z s = (z, s1) := by
 show (if _ = true then _ else _) = _
 rw [h]
 rfl
theorem rb_step {M : Mc σ} {u : Int} {k c : Nat} {s s1 : Ms σ} {b : Bool} (h : flaM M s (bitAt u k) = (b, s1)) : rbM M u (k + 1) c s = rbM M u k (2 * c + if b then 1 else 0) s1 := by
 show rbM M u k (2 * c + if (flaM M s (bitAt u k)).1 = true then 1 else 0) (flaM M s (bitAt u k)).2 = _
 rw [h]
theorem rz_le {M : Mc σ} {u : Int} : ∀ (f z : Nat) (s : Ms σ), z ≤ (rzM M u f z s).1 ∧ (rzM M u f z s).1 ≤ z + f
 | 0, z, s => ⟨Nat.le_refl _, Nat.le_refl _⟩
 | f + 1, z, s => by
   obtain ⟨⟨b, t⟩, e⟩ : ∃ r, flaM M s (geAt u z) = r := ⟨_, rfl⟩
   cases b
   · rw [rz_no e]; exact ⟨Nat.le_refl _, Nat.le_add_right _ _⟩
   · rw [rz_yes e]
     have h := rz_le (M := M) (u := u) f (z + 1) t
     omega
theorem rb_lt {M : Mc σ} {u : Int} : ∀ (k c : Nat) (s : Ms σ), c * 2 ^ k ≤ (rbM M u k c s).1 ∧ (rbM M u k c s).1 < (c + 1) * 2 ^ k
 | 0, c, s => by show c * 1 ≤ c ∧ c < (c + 1) * 1; omega
 | k + 1, c, s => by
   obtain ⟨⟨b, t⟩, e⟩ : ∃ r, flaM M s (bitAt u k) = r := ⟨_, rfl⟩
   rw [rb_step e]
   have h := rb_lt (M := M) (u := u) k (2 * c + if b then 1 else 0) t
   have p : (2 : Nat) ^ (k + 1) = 2 * 2 ^ k := by rw [Nat.pow_succ, Nat.mul_comm]
   rw [p]
   have hb : (if b = true then 1 else 0) ≤ 1 := by cases b <;> decide
   generalize (if b = true then 1 else 0) = d at h hb ⊢
   constructor
   · refine Nat.le_trans ?_ h.1
     rw [← Nat.mul_assoc]; exact Nat.mul_le_mul_right _ (by omega)
   · refine Nat.lt_of_lt_of_le h.2 ?_
     rw [← Nat.mul_assoc]; exact Nat.mul_le_mul_right _ (by omega)
end
theorem two_pos (m : Nat) : (0 : Int) < 2 ^ m := Int.pow_pos (by decide)
theorem two_le (m : Nat) (h : m ≤ 13) : (2 : Int) ^ m ≤ 8192 := by
 have h2 : (2 : Nat) ^ m ≤ 8192 := Nat.pow_le_pow_right (n := 2) (by decide) h
 have h3 : ((2 ^ m : Nat) : Int) ≤ ((8192 : Nat) : Int) := Int.ofNat_le.2 h2
 rw [Int.natCast_pow] at h3
 exact h3
theorem wrap_two (m : Nat) (h : m ≤ 13) : IntKind.i64.wrap ((2 : Int) ^ m) = (2 : Int) ^ m := by
 have b1 := two_pos m
 have b2 := two_le m h
 generalize (2 : Int) ^ m = x at b1 b2
 rw [IntKind.wrap_i64]; omega
theorem shr_any (u : Int) (k : Nat) (h : k ≤ 13) : Op.shift .shr .i64 u .i64 (k : Int) = pure (.int .i64 (u / (2 : Int) ^ k)) := by
 unfold Op.shift
 rw [if_neg (by omega)]
 have e : min (k : Int).toNat IntKind.i64.bits = k := by rw [show IntKind.i64.bits = 64 from rfl]; omega
 rw [e]
 show pure (Value.int .i64 (u.fdiv (2 ^ k))) = _
 rw [Int.fdiv_eq_ediv_of_nonneg _ (Int.le_of_lt (two_pos k))]
theorem and_one (x : Int) : Op.intBits .and .i64 x 1 = pure (.int .i64 (x % 2)) := by
 unfold Op.intBits
 show pure (Value.int .i64 (IntKind.i64.wrap (((BitVec.ofInt 64 x &&& BitVec.ofInt 64 1).toNat : Nat) : Int))) = _
 rw [BitVec.toNat_and, BitVec.toNat_ofInt, show (BitVec.ofInt 64 1).toNat = 1 from rfl, Nat.and_one_is_mod, IntKind.wrap_i64]
 have e : (((x % ((2 ^ 64 : Nat) : Int)).toNat % 2 : Nat) : Int) = x % 2 := by
  rw [show ((2 ^ 64 : Nat) : Int) = 18446744073709551616 from rfl]; omega
 rw [e, show (x % 2 + 9223372036854775808) % 18446744073709551616 - 9223372036854775808 = x % 2 by omega]
theorem bit_and (u : Int) (k : Nat) : (u / (2 : Int) ^ k % 2 == 1) = bitAt u k := by
 unfold bitAt
 by_cases e : u / (2 : Int) ^ k % 2 = 1
 · rw [decide_eq_true e]; exact beq_iff_eq.2 e
 · rw [decide_eq_false e]; exact beq_eq_false_iff_ne.2 e
theorem nr_fla (a : Nat) (w : World) : (nilAhead 379 122 (.pointer (some ⟨a, 0, none⟩)) "Flat").run Tryz.prog w = .ok (some false) w := by kernel_rfl
set_option maxRecDepth 20000 in
set_option maxHeartbeats 600000 in
theorem mrrest_any (a N : Nat) (bs : List Nat) (hb : ∀ x ∈ bs, x < 256) (u : Int) (hu0 : -100 ≤ u) (hu1 : u ≤ 20000) (s : Ms Dc) (F : Nat → Prop) (w : World) (h : (RdF a bs) w F s) (hk : okS okDm N s) (hN : N ≤ 3999000) : Calls Tryz.prog 179 #[.iface 122 (.pointer (some ⟨a, 0, none⟩)), .int .i64 u] w (FPost (RdF a bs) F w (.int .i64 ((rstM (mD bs) u s).1 : Int)) (rstM (mD bs) u s).2) := by
 have HF := mr_fla a
 have HN := nr_fla a
 have UF := Lib.hid ((fun N up s F w h hk hN => mrflat_any a N bs up s F w h hk hN))
 have HK := Lib.hid hk
 have HO := Lib.hid h
 clear h hk
 go_enter Tryz.func179, Tryz.ntmps179
 go_wp2_with fail
 go_loopw [5] (fun iv wr => ∃ (n : Nat) (t : Ms Dc) (G : Nat → Prop), n ≤ 13 ∧ iv = .int .i64 (n : Int) ∧ Hid (rzM (mD bs) u 13 0 s = rzM (mD bs) u (13 - n) n t) ∧ Hid (okS okDm (N + 4 * n) t) ∧ Hid ((RdF a bs) wr G t) ∧ Hid (Step F w G wr)) (fun iv _ => 13 - (intOf iv).toNat)
 case atStart => exact ⟨0, s, F, Nat.zero_le _, rfl, rfl, HK.out, HO.out, Step.of_ext (Ext.refl w)⟩
 case round =>
  clear HO HK
  obtain ⟨n, t, G, hn, rfl, HS, HK, HO, HG⟩ := hrel
  by_cases hlt : n < 13
  · have x1 : (n : Int) < 13 := by omega
    obtain ⟨f, hf⟩ : ∃ f, 13 - n = f + 1 := ⟨12 - n, by omega⟩
    have hs := HS.out
    rw [hf] at hs
    obtain ⟨m, hm⟩ : ∃ m : Nat, n + 1 = m := ⟨_, rfl⟩
    have q1 : IntKind.i64.wrap ((n : Int) + 1) = (m : Int) := by rw [IntKind.wrap_i64]; omega
    have q4 : IntKind.i64.wrap ((2 : Int) ^ m) = (2 : Int) ^ m := wrap_two m (by omega)
    obtain ⟨g, hg⟩ : ∃ g, geAt u n = g := ⟨_, rfl⟩
    have q3 : decide ((2 : Int) ^ m ≤ u) = g := by rw [← hg, ← hm]; rfl
    obtain ⟨⟨V, t1⟩, e2⟩ : ∃ r, flaM (mD bs) t g = r := ⟨_, rfl⟩
    have HY : Hid (V = true → rzM (mD bs) u 13 0 s = rzM (mD bs) u (13 - m) m t1) := fun e => by
     subst e
     rw [hs, rz_yes (by rw [hg]; exact e2), show 13 - m = f by omega, hm]
    have HX : Hid (V = false → rzM (mD bs) u 13 0 s = (n, t1)) := fun e => by
     subst e
     rw [hs, rz_no (by rw [hg]; exact e2)]
    have k3 := fla_ok (mkD hb) g HK.out
    rw [e2] at k3
    have HK3 : Hid (okS okDm (N + 4 * m) t1) := by
     show _
     rw [← hm]
     exact k3
    have UF2 := Lib.hid (fun G w (h : (RdF a bs) w G t) => UF.out (N + 4 * n) g t G w h HK.out (by omega))
    rw [e2] at UF2
    clear hs hf hg e2 k3 HS HK
    go_wp2_with fail
    go_still_tail 12, (by kernel_rfl)
    change wpList _ _ _ _ _ wr.drew
    have HO2 := Lib.hid (RdF.ext HO.out ((Ext.refl wr).drew))
    have HG2 := Lib.hid (HG.out.ext ((Ext.refl wr).drew))
    clear HO HG
    generalize wr.drew = wz at HO2 HG2 ⊢
    have U3 := Lib.hid (UF2.out G wz HO2.out)
    clear UF2
    go_wp2_with fail
    refine (U3.out).mono ?_; rintro e w3 ⟨rfl, G3, h3, g3⟩
    have H3 := Lib.hid h3
    have G3' := Lib.hid (HG2.out.trans g3)
    clear h3 g3 HG2 HO2 U3
    cases V
    · have HZ := Lib.hid (HX.out rfl)
      clear HX HY
      obtain ⟨Q, hQ, hQ2⟩ : ∃ Q, 4 * (n + 1) = Q ∧ Q ≤ 56 := ⟨_, rfl, by omega⟩
      have HK4 : Hid (okS okDm (N + Q) t1) := by rw [← hQ, hm]; exact HK3.out
      clear HK3 q1 q4 q3 hm hQ
      have HR : Hid (rstM (mD bs) u s = rbM (mD bs) u n 1 t1) := by
       show _ = _
       unfold rstM
       rw [HZ.out]
      clear HZ
      go_wp2_with fail
      go_loopw [6, 7] (fun cv kv wr => ∃ (k c : Nat) (t : Ms Dc) (G : Nat → Prop), k ≤ n ∧ kv = .int .i64 ((k : Int) - 1) ∧ cv = .int .i64 (c : Int) ∧ Hid ((c + 1) * 2 ^ k ≤ 16384) ∧ Hid (rstM (mD bs) u s = rbM (mD bs) u k c t) ∧ Hid (okS okDm (N + Q + 4 * (n - k)) t) ∧ Hid ((RdF a bs) wr G t) ∧ Hid (Step F w G wr)) (fun _ kv _ => (intOf kv + 1).toNat)
      case atStart =>
       refine ⟨n, 1, t1, G3, Nat.le_refl _, by go_num, rfl, ?_, HR.out, ?_, H3.out, G3'.out⟩
       · show (1 + 1) * 2 ^ n ≤ 16384
         have := Nat.pow_le_pow_right (n := 2) (by decide) hn
         omega
       · rw [Nat.sub_self]; exact HK4.out
      case round =>
       clear HR H3 G3' HK4
       obtain ⟨k, c, t, G, hk, rfl, rfl, HC, HS, HK, HO, HG⟩ := hrel
       cases k
       · rw [show ((0 : Nat) : Int) - 1 = -1 from rfl]
         have hs := HS.out
         rw [show rbM (mD bs) u 0 c t = (c, t) from rfl] at hs
         have HR := Lib.hid hs
         clear hs HS HC HK
         go_wp2
         go_ret
         exact ⟨by rw [HR.out]; rfl, G, by rw [HR.out]; exact HO.out, HG.out⟩
       · rename_i k
         rw [show ((k + 1 : Nat) : Int) - 1 = (k : Int) by omega]
         have x2 : (0 : Int) ≤ (k : Int) := by omega
         have hc := HC.out
         have hc2 : c ≤ 16383 := by
          have := Nat.le_mul_of_pos_right (c + 1) (Nat.pos_of_ne_zero (fun e => by simp at e) : 0 < 2 ^ (k + 1))
          omega
         obtain ⟨d, hd⟩ : ∃ d : Nat, 2 * c = d := ⟨_, rfl⟩
         have q5 : IntKind.i64.wrap ((c : Int) * 2) = (d : Int) := by rw [IntKind.wrap_i64]; omega
         have q6 : IntKind.i64.wrap ((d : Int) + 1) = (d : Int) + 1 := by rw [IntKind.wrap_i64]; omega
         have q7 : IntKind.i64.wrap ((k : Int) - 1) = (k : Int) - 1 := by rw [IntKind.wrap_i64]; omega
         obtain ⟨g, hg⟩ : ∃ g, bitAt u k = g := ⟨_, rfl⟩
         have q8 : (u / (2 : Int) ^ k % 2 == 1) = g := by rw [bit_and]; exact hg
         have q9 : Op.shift .shr .i64 u .i64 (k : Int) = pure (.int .i64 (u / (2 : Int) ^ k)) := shr_any u k (by omega)
         have qa : Op.intBits .and .i64 (u / (2 : Int) ^ k) 1 = pure (.int .i64 (u / (2 : Int) ^ k % 2)) := and_one _
         obtain ⟨⟨V, t2⟩, e2⟩ : ∃ r, flaM (mD bs) t g = r := ⟨_, rfl⟩
         have hs := HS.out
         rw [rb_step (b := V) (s1 := t2) (by rw [hg]; exact e2), hd] at hs
         have HS2 := Lib.hid hs
         have k3 := fla_ok (mkD hb) g HK.out
         rw [e2] at k3
         have HK5 : Hid (okS okDm (N + Q + 4 * (n - k)) t2) := by
          show _
          rw [show n - k = (n - (k + 1)) + 1 by omega]
          exact k3
         have HC2 : Hid ((d + 2) * 2 ^ k ≤ 16384) := by
          show _
          rw [Nat.pow_succ, Nat.mul_comm (2 ^ k) 2, ← Nat.mul_assoc] at hc
          rw [← hd, show 2 * c + 2 = (c + 1) * 2 by omega]
          exact hc
         have UF2 := Lib.hid (fun G w (h : (RdF a bs) w G t) => UF.out (N + Q + 4 * (n - (k + 1))) g t G w h HK.out (by omega))
         rw [e2] at UF2
         clear hs hg e2 k3 HS HK HC hc hd
         go_wp2_with fail
         go_still_tail 9, (by kernel_rfl)
         change wpList _ _ _ _ _ wr.drew
         have HO2 := Lib.hid (RdF.ext HO.out ((Ext.refl wr).drew))
         have HG2 := Lib.hid (HG.out.ext ((Ext.refl wr).drew))
         clear HO HG
         generalize wr.drew = wz at HO2 HG2 ⊢
         have U3 := Lib.hid (UF2.out G wz HO2.out)
         clear UF2
         go_wp2_with fail
         refine (U3.out).mono ?_; rintro e w3 ⟨rfl, G3, h3, g3⟩
         have H3 := Lib.hid h3
         have G3' := Lib.hid (HG2.out.trans g3)
         clear h3 g3 HG2 HO2 U3
         cases V
         · go_wp2
           go_roundw
           case rel => exact ⟨k, d, t2, G3, by omega, by go_num, rfl, Nat.le_trans (Nat.mul_le_mul_right _ (by omega)) HC2.out, HS2.out, HK5.out, H3.out, G3'.out⟩
           case measure => simp [intOf] <;> omega
         · go_wp2
           go_roundw
           case rel => exact ⟨k, d + 1, t2, G3, by omega, by go_num, by go_num, HC2.out, HS2.out, HK5.out, H3.out, G3'.out⟩
           case measure => simp [intOf] <;> omega
    · have HS3 := Lib.hid (HY.out rfl)
      clear HX HY
      go_wp2
      go_roundw
      case rel => exact ⟨m, t1, G3, by omega, by go_num, HS3.out, HK3.out, H3.out, G3'.out⟩
      case measure => simp [intOf] <;> omega
  · have h13 : n = 13 := by omega
    have x1 : ¬ (n : Int) < 13 := by omega
    have HZ : Hid (rzM (mD bs) u 13 0 s = (n, t)) := by
     have := HS.out
     rw [show 13 - n = 0 by omega] at this
     exact this
    obtain ⟨Q, hQ, hQ2⟩ : ∃ Q, 4 * n = Q ∧ Q ≤ 56 := ⟨_, rfl, by omega⟩
    have HK4 : Hid (okS okDm (N + Q) t) := by rw [← hQ]; exact HK.out
    obtain ⟨t1, ht⟩ : ∃ x, x = t := ⟨_, rfl⟩
    subst ht
    obtain ⟨G3, ht⟩ : ∃ x, x = G := ⟨_, rfl⟩
    subst ht
    have d1 : decide ((n : Int) < 13) = false := decide_eq_false x1
    clear h13 hlt hQ HS HK x1
    go_wp2_with fail
    go_quiet (fail)
    have H3 := Lib.hid (RdF.ext HO.out ((Ext.refl wr).drewN nq))
    have G3' := Lib.hid (HG.out.ext ((Ext.refl wr).drewN nq))
    clear HO HG
    generalize wr.drewN nq = w3 at H3 G3' ⊢
    have HR : Hid (rstM (mD bs) u s = rbM (mD bs) u n 1 t1) := by
     show _ = _
     unfold rstM
     rw [HZ.out]
    clear HZ
    go_wp2_with fail
    go_loopw [6, 7] (fun cv kv wr => ∃ (k c : Nat) (t : Ms Dc) (G : Nat → Prop), k ≤ n ∧ kv = .int .i64 ((k : Int) - 1) ∧ cv = .int .i64 (c : Int) ∧ Hid ((c + 1) * 2 ^ k ≤ 16384) ∧ Hid (rstM (mD bs) u s = rbM (mD bs) u k c t) ∧ Hid (okS okDm (N + Q + 4 * (n - k)) t) ∧ Hid ((RdF a bs) wr G t) ∧ Hid (Step F w G wr)) (fun _ kv _ => (intOf kv + 1).toNat)
    case atStart =>
     refine ⟨n, 1, t1, G3, Nat.le_refl _, by go_num, rfl, ?_, HR.out, ?_, H3.out, G3'.out⟩
     · show (1 + 1) * 2 ^ n ≤ 16384
       have := Nat.pow_le_pow_right (n := 2) (by decide) hn
       omega
     · rw [Nat.sub_self]; exact HK4.out
    case round =>
     clear HR H3 G3' HK4
     obtain ⟨k, c, t, G, hk, rfl, rfl, HC, HS, HK, HO, HG⟩ := hrel
     cases k
     · rw [show ((0 : Nat) : Int) - 1 = -1 from rfl]
       have hs := HS.out
       rw [show rbM (mD bs) u 0 c t = (c, t) from rfl] at hs
       have HR := Lib.hid hs
       clear hs HS HC HK
       go_wp2
       go_ret
       exact ⟨by rw [HR.out]; rfl, G, by rw [HR.out]; exact HO.out, HG.out⟩
     · rename_i k
       rw [show ((k + 1 : Nat) : Int) - 1 = (k : Int) by omega]
       have x2 : (0 : Int) ≤ (k : Int) := by omega
       have hc := HC.out
       have hc2 : c ≤ 16383 := by
        have := Nat.le_mul_of_pos_right (c + 1) (Nat.pos_of_ne_zero (fun e => by simp at e) : 0 < 2 ^ (k + 1))
        omega
       obtain ⟨d, hd⟩ : ∃ d : Nat, 2 * c = d := ⟨_, rfl⟩
       have q5 : IntKind.i64.wrap ((c : Int) * 2) = (d : Int) := by rw [IntKind.wrap_i64]; omega
       have q6 : IntKind.i64.wrap ((d : Int) + 1) = (d : Int) + 1 := by rw [IntKind.wrap_i64]; omega
       have q7 : IntKind.i64.wrap ((k : Int) - 1) = (k : Int) - 1 := by rw [IntKind.wrap_i64]; omega
       obtain ⟨g, hg⟩ : ∃ g, bitAt u k = g := ⟨_, rfl⟩
       have q8 : (u / (2 : Int) ^ k % 2 == 1) = g := by rw [bit_and]; exact hg
       have q9 : Op.shift .shr .i64 u .i64 (k : Int) = pure (.int .i64 (u / (2 : Int) ^ k)) := shr_any u k (by omega)
       have qa : Op.intBits .and .i64 (u / (2 : Int) ^ k) 1 = pure (.int .i64 (u / (2 : Int) ^ k % 2)) := and_one _
       obtain ⟨⟨V, t2⟩, e2⟩ : ∃ r, flaM (mD bs) t g = r := ⟨_, rfl⟩
       have hs := HS.out
       rw [rb_step (b := V) (s1 := t2) (by rw [hg]; exact e2), hd] at hs
       have HS2 := Lib.hid hs
       have k3 := fla_ok (mkD hb) g HK.out
       rw [e2] at k3
       have HK5 : Hid (okS okDm (N + Q + 4 * (n - k)) t2) := by
        show _
        rw [show n - k = (n - (k + 1)) + 1 by omega]
        exact k3
       have HC2 : Hid ((d + 2) * 2 ^ k ≤ 16384) := by
        show _
        rw [Nat.pow_succ, Nat.mul_comm (2 ^ k) 2, ← Nat.mul_assoc] at hc
        rw [← hd, show 2 * c + 2 = (c + 1) * 2 by omega]
        exact hc
       have UF2 := Lib.hid (fun G w (h : (RdF a bs) w G t) => UF.out (N + Q + 4 * (n - (k + 1))) g t G w h HK.out (by omega))
       rw [e2] at UF2
       clear hs hg e2 k3 HS HK HC hc hd
       go_wp2_with fail
       go_still_tail 9, (by kernel_rfl)
       change wpList _ _ _ _ _ wr.drew
       have HO2 := Lib.hid (RdF.ext HO.out ((Ext.refl wr).drew))
       have HG2 := Lib.hid (HG.out.ext ((Ext.refl wr).drew))
       clear HO HG
       generalize wr.drew = wz at HO2 HG2 ⊢
       have U3 := Lib.hid (UF2.out G wz HO2.out)
       clear UF2
       go_wp2_with fail
       refine (U3.out).mono ?_; rintro e w3 ⟨rfl, G3, h3, g3⟩
       have H3 := Lib.hid h3
       have G3' := Lib.hid (HG2.out.trans g3)
       clear h3 g3 HG2 HO2 U3
       cases V
       · go_wp2
         go_roundw
         case rel => exact ⟨k, d, t2, G3, by omega, by go_num, rfl, Nat.le_trans (Nat.mul_le_mul_right _ (by omega)) HC2.out, HS2.out, HK5.out, H3.out, G3'.out⟩
         case measure => simp [intOf] <;> omega
       · go_wp2
         go_roundw
         case rel => exact ⟨k, d + 1, t2, G3, by omega, by go_num, by go_num, HC2.out, HS2.out, HK5.out, H3.out, G3'.out⟩
         case measure => simp [intOf] <;> omega
section
variable {σ : Type}
def csM (M : Mc σ) (C : Nat) (z : Int) : Nat → Nat → Ms σ → Nat × Ms σ
 | 0, _, s => (13 + (rstM M (z - 13) s).1, (rstM M (z - 13) s).2)
 | f + 1, n, s => if (bitM M s ((C + min n 7 : Nat) : Int) (decide ((n : Int) < z))).1 then csM M C z f (n + 1) (bitM M s ((C + min n 7 : Nat) : Int) (decide ((n : Int) < z))).2 else (n, (bitM M s ((C + min n 7 : Nat) : Int) (decide ((n : Int) < z))).2)
theorem cs_yes {M : Mc σ} {C : Nat} {z : Int} {f n : Nat} {s s1 : Ms σ} (h : bitM M s ((C + min n 7 : Nat) : Int) (decide ((n : Int) < z)) = (true, s1)) : csM M C z (f + 1) n s = csM M C z f (n + 1) s1 := by
 show (if _ = true then _ else _) = _
 rw [h]
 rfl
theorem cs_no {M : Mc σ} {C : Nat} {z : Int} {f n : Nat} {s s1 : Ms σ} (h : bitM M s ((C + min n 7 : Nat) : Int) (decide ((n : Int) < z)) = (false, s1)) : csM M C z (f + 1) n s = (n, s1) := by
 show (if _ = true then _ else _) = _
 rw [h]
 rfl
theorem rst_lt {M : Mc σ} {u : Int} (s : Ms σ) : 1 ≤ (rstM M u s).1 ∧ (rstM M u s).1 ≤ 16383 := by
 have h := rz_le (M := M) (u := u) 13 0 s
 have k := rb_lt (M := M) (u := u) (rzM M u 13 0 s).1 1 (rzM M u 13 0 s).2
 have p : 2 ^ (rzM M u 13 0 s).1 ≤ 2 ^ 13 := Nat.pow_le_pow_right (by decide) (by omega)
 have p0 : 0 < 2 ^ (rzM M u 13 0 s).1 := Nat.two_pow_pos _
 unfold rstM
 omega
theorem cs_le {M : Mc σ} {C : Nat} {z : Int} : ∀ (f n : Nat) (s : Ms σ), n + f ≤ 14 → (csM M C z f n s).1 ≤ 16396
 | 0, n, s, _ => by
   have := (rst_lt (M := M) (u := z - 13) s).2
   show 13 + _ ≤ _
   omega
 | f + 1, n, s, h => by
   obtain ⟨⟨b, t⟩, e⟩ : ∃ r, bitM M s ((C + min n 7 : Nat) : Int) (decide ((n : Int) < z)) = r := ⟨_, rfl⟩
   cases b
   · rw [cs_no e]; show n ≤ _; omega
   · rw [cs_yes e]; exact cs_le f (n + 1) t (by omega)
def lvM (M : Mc σ) (C : Nat) (v : Int) (s : Ms σ) : Int × Ms σ :=
 (if (flaM M s (decide (v < 0))).1 then -(((csM M C ((v.natAbs : Int) - 1) 14 0 (flaM M s (decide (v < 0))).2).1 : Int) + 1) else ((csM M C ((v.natAbs : Int) - 1) 14 0 (flaM M s (decide (v < 0))).2).1 : Int) + 1,
   (csM M C ((v.natAbs : Int) - 1) 14 0 (flaM M s (decide (v < 0))).2).2)
variable {M : Mc σ} {ok : Nat → σ → Prop}
theorem rz_ok (m : Mk M ok) {u : Int} : ∀ (f z : Nat) {N : Nat} {s : Ms σ}, okS ok N s → okS ok (N + 4 * f) (rzM M u f z s).2
 | 0, _, _, _, h => h
 | f + 1, z, N, s, h => by
   have h1 := fla_ok m (geAt u z) h
   unfold rzM
   split
   · have := rz_ok m (u := u) f (z + 1) h1
     rw [show N + 4 + 4 * f = N + 4 * (f + 1) by omega] at this
     exact this
   · exact h1.mono m (by omega)
theorem rb_ok (m : Mk M ok) {u : Int} : ∀ (k c : Nat) {N : Nat} {s : Ms σ}, okS ok N s → okS ok (N + 4 * k) (rbM M u k c s).2
 | 0, _, _, _, h => h
 | k + 1, c, N, s, h => by
   have h1 := fla_ok m (bitAt u k) h
   have := rb_ok m (u := u) k (2 * c + if (flaM M s (bitAt u k)).1 then 1 else 0) h1
   rw [show N + 4 + 4 * k = N + 4 * (k + 1) by omega] at this
   exact this
theorem rst_ok (m : Mk M ok) {u : Int} {N : Nat} {s : Ms σ} (h : okS ok N s) : okS ok (N + 104) (rstM M u s).2 := by
 have h1 := rz_ok m (u := u) 13 0 h
 have h2 := rb_ok m (u := u) (rzM M u 13 0 s).1 1 h1
 have := (rz_le (M := M) (u := u) 13 0 s).2
 exact h2.mono m (by omega)
theorem cs_ok (m : Mk M ok) {C : Nat} {z : Int} : ∀ (f n : Nat) {N : Nat} {s : Ms σ}, okS ok N s → okS ok (N + 104 + 4 * f) (csM M C z f n s).2
 | 0, _, _, _, h => rst_ok m h
 | f + 1, n, N, s, h => by
   have h1 := bit_ok m ((C + min n 7 : Nat) : Int) (decide ((n : Int) < z)) h
   unfold csM
   split
   · have := cs_ok m (C := C) (z := z) f (n + 1) h1
     rw [show N + 4 + 104 + 4 * f = N + 104 + 4 * (f + 1) by omega] at this
     exact this
   · exact h1.mono m (by omega)
theorem lv_ok (m : Mk M ok) {C : Nat} {v : Int} {N : Nat} {s : Ms σ} (h : okS ok N s) : okS ok (N + 164) (lvM M C v s).2 :=
 cs_ok m (C := C) (z := (v.natAbs : Int) - 1) 14 0 (fla_ok m (decide (v < 0)) h)
end
set_option maxRecDepth 20000 in
set_option maxHeartbeats 4500000 in
theorem mrsize_any (a N : Nat) (bs : List Nat) (hb : ∀ x ∈ bs, x < 256) (C : Nat) (hC : C ≤ 100) (z : Int) (hz0 : -20 ≤ z) (hz1 : z ≤ 17000) (s : Ms Dc) (F : Nat → Prop) (w : World) (h : (RdF a bs) w F s) (hk : okS okDm N s) (hN : N ≤ 3998000) : Calls Tryz.prog 177 #[.iface 122 (.pointer (some ⟨a, 0, none⟩)), .int .i64 (C : Int), .int .i64 z] w (FPost (RdF a bs) F w (.int .i64 ((csM (mD bs) C z 14 0 s).1 : Int)) (csM (mD bs) C z 14 0 s).2) := by
 have HM := mr_bit a
 have UB := Lib.hid ((fun N c up s F w h hk hN => mrbit_any a N bs c up s F w h hk hN))
 have UR := Lib.hid (fun (N : Nat) (u : Int) (h0 : -100 ≤ u) (h1 : u ≤ 20000) (s : Ms Dc) (F : Nat → Prop) (w : World) (h : (RdF a bs) w F s) (hk : okS okDm N s) (hN : N ≤ 3999000) => mrrest_any a N bs hb u h0 h1 s F w h hk hN)
 have HK := Lib.hid hk
 have HO := Lib.hid h
 clear h hk
 go_enter Tryz.func177, Tryz.ntmps177
 go_wp2_with fail
 go_loopw [8] (fun iv wr => ∃ (n : Nat) (t : Ms Dc) (G : Nat → Prop), n ≤ 14 ∧ iv = .int .i64 (n : Int) ∧ Hid (csM (mD bs) C z 14 0 s = csM (mD bs) C z (14 - n) n t) ∧ Hid (okS okDm (N + 4 * n) t) ∧ Hid ((RdF a bs) wr G t) ∧ Hid (Step F w G wr)) (fun iv _ => 14 - (intOf iv).toNat)
 case atStart => exact ⟨0, s, F, Nat.zero_le _, rfl, rfl, HK.out, HO.out, Step.of_ext (Ext.refl w)⟩
 case round =>
  clear HO HK
  obtain ⟨n, t, G, hn, rfl, HS, HK, HO, HG⟩ := hrel
  by_cases hlt : n < 14
  · obtain ⟨f, hf⟩ : ∃ f, 14 - n = f + 1 := ⟨13 - n, by omega⟩
    have hs := HS.out
    rw [hf] at hs
    obtain ⟨D, hD⟩ : ∃ D : Nat, C + min n 7 = D := ⟨_, rfl⟩
    obtain ⟨bz, hbz⟩ : ∃ b, decide ((n : Int) < z) = b := ⟨_, rfl⟩
    obtain ⟨⟨V2, t1⟩, e2⟩ : ∃ r, bitM (mD bs) t ((C + min n 7 : Nat) : Int) (decide ((n : Int) < z)) = r := ⟨_, rfl⟩
    have HY : Hid (V2 = true → csM (mD bs) C z 14 0 s = csM (mD bs) C z (14 - (n + 1)) (n + 1) t1) := fun e => by
     subst e
     rw [hs, cs_yes e2, show 14 - (n + 1) = f by omega]
    have HX : Hid (V2 = false → csM (mD bs) C z 14 0 s = (n, t1)) := fun e => by
     subst e
     rw [hs, cs_no e2]
    have k3 := bit_ok (mkD hb) ((C + min n 7 : Nat) : Int) (decide ((n : Int) < z)) HK.out
    rw [e2] at k3
    have HK3 : Hid (okS okDm (N + 4 * (n + 1)) t1) := k3
    have U2 := Lib.hid (UB.out (N + 4 * n) ((C + min n 7 : Nat) : Int) (decide ((n : Int) < z)) t G wr HO.out HK.out (by omega))
    rw [e2, hbz, hD] at U2
    have x1 : (n : Int) < 14 := by omega
    have q4 : IntKind.i64.wrap ((C : Int) + min (n : Int) 7) = (D : Int) := by rw [IntKind.wrap_i64]; omega
    have d3 := hbz
    clear hs hf hD hbz e2 k3 HS HK HO
    go_wp2_with fail
    refine (U2.out).mono ?_; rintro e w3 ⟨rfl, G3, h3, g3⟩
    have H3 := Lib.hid h3
    have G3' := Lib.hid (HG.out.trans g3)
    clear h3 g3 HG
    cases V2
    · have HRR := Lib.hid (HX.out rfl)
      clear HX HY U2 UB UR
      go_wp2
      go_ret
      exact ⟨by rw [HRR.out]; rfl, G3, by rw [HRR.out]; exact H3.out, G3'.out⟩
    · have HS3 := Lib.hid (HY.out rfl)
      clear HX HY U2
      go_wp2
      go_roundw
      case rel => exact ⟨n + 1, t1, G3, by omega, by go_num, HS3.out, HK3.out, H3.out, G3'.out⟩
      case measure => simp [intOf] <;> omega
  · obtain rfl : n = 14 := by omega
    have x1 : ¬ ((14 : Nat) : Int) < 14 := by omega
    have q5 : IntKind.i64.wrap (z - 13) = z - 13 := by rw [IntKind.wrap_i64]; omega
    obtain ⟨⟨R, t2⟩, hR⟩ : ∃ r, rstM (mD bs) (z - 13) t = r := ⟨_, rfl⟩
    have hl := (rst_lt (M := (mD bs)) (u := z - 13) t).2
    rw [hR] at hl
    have q6 : IntKind.i64.wrap (13 + (R : Int)) = ((13 + R : Nat) : Int) := by rw [IntKind.wrap_i64]; have : R ≤ 16383 := hl; omega
    have HR : Hid (csM (mD bs) C z 14 0 s = (13 + R, t2)) := by
     show _ = _
     rw [HS.out]
     show (13 + (rstM (mD bs) (z - 13) t).1, (rstM (mD bs) (z - 13) t).2) = _
     rw [hR]
    have U5 := Lib.hid (UR.out (N + 4 * 14) (z - 13) (by omega) (by omega) t G wr HO.out HK.out (by omega))
    rw [hR] at U5
    clear HS HK HO UB UR hl hR
    go_wp2_with fail
    refine (U5.out).mono ?_; rintro e w3 ⟨rfl, G3, h3, g3⟩
    have H3 := Lib.hid h3
    have G3' := Lib.hid (HG.out.trans g3)
    clear h3 g3 HG U5
    go_wp2
    go_ret
    exact ⟨by rw [HR.out]; rfl, G3, by rw [HR.out]; exact H3.out, G3'.out⟩
theorem wrap_up1 (R : Nat) (h : R ≤ 16396) : IntKind.i64.wrap ((R : Int) + 1) = (R : Int) + 1 := by rw [IntKind.wrap_i64]; omega
theorem wrap_down1 (R : Nat) (h : R ≤ 16396) : IntKind.i64.wrap (-((R : Int) + 1)) = -((R : Int) + 1) := by rw [IntKind.wrap_i64]; omega
set_option maxRecDepth 20000 in
set_option maxHeartbeats 4500000 in
theorem mrlevel_any (a N : Nat) (bs : List Nat) (hb : ∀ x ∈ bs, x < 256) (C : Nat) (hC : C ≤ 100) (v : Int) (hv0 : -16320 ≤ v) (hv1 : v ≤ 16320) (s : Ms Dc) (F : Nat → Prop) (w : World) (h : (RdF a bs) w F s) (hk : okS okDm N s) (hN : N ≤ 3997000) : Calls Tryz.prog 171 #[.iface 122 (.pointer (some ⟨a, 0, none⟩)), .int .i64 (C : Int), .int .i64 v] w (FPost (RdF a bs) F w (.int .i64 (lvM (mD bs) C v s).1) (lvM (mD bs) C v s).2) := by
 have HF := mr_fla a
 have UF := Lib.hid ((fun N up s F w h hk hN => mrflat_any a N bs up s F w h hk hN))
 have UR := Lib.hid (fun (N : Nat) (z : Int) (h0 : -20 ≤ z) (h1 : z ≤ 17000) (s : Ms Dc) (F : Nat → Prop) (w : World) (h : (RdF a bs) w F s) (hk : okS okDm N s) (hN : N ≤ 3998000) => mrsize_any a N bs hb C hC z h0 h1 s F w h hk hN)
 have q1 : IntKind.i64.wrap (-v) = -v := by rw [IntKind.wrap_i64]; omega
 obtain ⟨z, hz⟩ : ∃ z, (v.natAbs : Int) - 1 = z := ⟨_, rfl⟩
 have hzm : max v (-v) - 1 = z := by rw [← hz]; omega
 have hz0 : -20 ≤ z := by omega
 have hz1 : z ≤ 17000 := by omega
 have q2 : IntKind.i64.wrap z = z := by rw [IntKind.wrap_i64]; omega
 have q3 : IntKind.i64.wrap (max v (-v) - 1) = z := by rw [hzm]; exact q2
 obtain ⟨b1, hb1⟩ : ∃ b, decide (v < 0) = b := ⟨_, rfl⟩
 obtain ⟨⟨V1, s1⟩, e1⟩ : ∃ r, flaM (mD bs) s b1 = r := ⟨_, rfl⟩
 obtain ⟨⟨R, s2⟩, e2⟩ : ∃ r, csM (mD bs) C z 14 0 s1 = r := ⟨_, rfl⟩
 have hR : R ≤ 16396 := by have := cs_le (M := (mD bs)) (C := C) (z := z) 14 0 s1 (by omega); rw [e2] at this; exact this
 have HR : Hid (lvM (mD bs) C v s = (if V1 then -((R : Int) + 1) else (R : Int) + 1, s2)) := by
  show _ = _
  unfold lvM
  rw [hb1, e1, hz]
  show (if V1 = true then -(((csM (mD bs) C z 14 0 s1).1 : Int) + 1) else ((csM (mD bs) C z 14 0 s1).1 : Int) + 1, (csM (mD bs) C z 14 0 s1).2) = _
  rw [e2]
 have k1 := fla_ok (mkD hb) b1 hk
 rw [e1] at k1
 have q4 : IntKind.i64.wrap ((R : Int) + 1) = (R : Int) + 1 := wrap_up1 R hR
 have q5 : IntKind.i64.wrap (-((R : Int) + 1)) = -((R : Int) + 1) := wrap_down1 R hR
 have U1 := Lib.hid (UF.out N b1 s F w h hk (by omega))
 have U2 := Lib.hid (fun F w' (h : (RdF a bs) w' F s1) => UR.out (N + 4) z hz0 hz1 s1 F w' h k1 (by omega))
 rw [e1] at U1
 rw [e2] at U2
 clear h hk k1 e1 e2 UF UR hz hzm hz0 hz1 q2 hR
 go_enter Tryz.func171, Tryz.ntmps171
 go_wp2_with fail
 refine (U1.out).mono ?_; rintro e w1 ⟨rfl, F1, h1, g1⟩
 have H1 := Lib.hid h1
 have G1 := Lib.hid g1
 clear h1 g1 U1
 go_wp2_with fail
 refine (U2.out _ _ H1.out).mono ?_; rintro e w2 ⟨rfl, F2, h2, g2⟩
 have H2 := Lib.hid h2
 have G2 := Lib.hid (G1.out.trans g2)
 clear h2 g2 H1 G1 U2
 cases V1
 all_goals (
  go_wp2
  go_ret
  exact ⟨by rw [HR.out]; rfl, F2, by rw [HR.out]; exact H2.out, G2.out⟩)
def lastP (xs : List Int) (od : List Nat) : Nat → Nat
 | 0 => 0
 | i + 1 => if xs.getD (od.getD (i + 1) 0) 0 ≠ 0 then i + 1 else lastP xs od i
set_option maxRecDepth 20000 in
set_option maxHeartbeats 1000000 in
theorem last_any (l o : Value) (xs : List Int) (od : List Nat) (m : Nat) (w : World) (hl : Ints w l xs) (ho : Ints w o (od.map fun (x : Nat) => (x : Int))) (hm : od.length = m + 1) (hi : ∀ i ∈ od, i < xs.length) : Calls Tryz.prog 170 #[l, o] w fun e w' => e = .returned (.int .i64 (lastP xs od m : Int)) ∧ w' = w := by
 have hx0 : 0 < xs.length := by
  cases od with
  | nil => simp at hm
  | cons x y => have := hi x (by simp); omega
 have hol : (od.map fun (x : Nat) => (x : Int)).length = m + 1 := by rw [List.length_map]; exact hm
 obtain ⟨g, off, cap, rfl, c1, c2⟩ := hl.addr hx0
 obtain ⟨g', off', cap', rfl, c3, c4⟩ := ho.addr (by omega)
 rw [hol] at c3 ho ⊢
 have hn := hl.2
 have hn2 := ho.2
 rw [hol] at hn2
 have UL := Lib.hid (fun j x (h : xs[j]? = some x) => hl.at h)
 have UO := Lib.hid (fun j x (h : (od.map fun (x : Nat) => (x : Int))[j]? = some x) => ho.at h)
 obtain ⟨n, hnn⟩ : ∃ n, xs.length = n := ⟨_, rfl⟩
 rw [hnn] at c1 hn ⊢
 have hI := Lib.hid hi
 have q0 : IntKind.i64.wrap (((m + 1 : Nat) : Int) - 1) = (m : Int) := by rw [IntKind.wrap_i64]; omega
 have q1 : IntKind.i64.wrap ((m : Int) + 1 - 1) = (m : Int) := by rw [IntKind.wrap_i64]; omega
 clear hl ho hi hx0 hol
 go_enter Tryz.func170, Tryz.ntmps170
 go_wp2_with fail
 go_loopw [5] (fun iv wr => ∃ i : Nat, i ≤ m ∧ iv = .int .i64 (i : Int) ∧ Hid (lastP xs od m = lastP xs od i) ∧ wr = w) (fun iv _ => (intOf iv).toNat)
 case atStart => exact ⟨m, Nat.le_refl _, by go_num, rfl, rfl⟩
 case round =>
  obtain ⟨i, hi, rfl, HS, rfl⟩ := hrel
  cases i
  · have hs := HS.out
    rw [show lastP xs od 0 = 0 from rfl] at hs
    have HR := Lib.hid hs
    clear hs HS
    go_wp2
    go_ret
    exact ⟨by rw [HR.out]; rfl, rfl⟩
  · rename_i i
    obtain ⟨d, hd⟩ : ∃ d, od[i + 1]? = some d := ⟨_, List.getElem?_eq_getElem (by omega)⟩
    have hdn : d < n := by rw [← hnn]; exact hI.out d (List.mem_of_getElem? hd)
    obtain ⟨x, hx⟩ : ∃ x, xs[d]? = some x := ⟨_, List.getElem?_eq_getElem (by omega)⟩
    have c5 := UO.out (i + 1) (d : Int) (by rw [List.getElem?_map, hd]; rfl)
    have c6 := UL.out d x hx
    have hs : lastP xs od m = if xs.getD (od.getD (i + 1) 0) 0 ≠ 0 then i + 1 else lastP xs od i := HS.out
    rw [show od.getD (i + 1) 0 = d by rw [List.getD_eq_getElem?_getD, hd]; rfl, show xs.getD d 0 = x by rw [List.getD_eq_getElem?_getD, hx]; rfl] at hs
    have x0 : ((i + 1 : Nat) : Int) > 0 := by omega
    have x1 : (0 : Int) ≤ ((i + 1 : Nat) : Int) := by omega
    have x2 : ((i + 1 : Nat) : Int) < ((m + 1 : Nat) : Int) := by omega
    have x3 : (0 : Int) ≤ (d : Int) := by omega
    have x4 : (d : Int) < (n : Int) := by omega
    have q2 : IntKind.i64.wrap (((i + 1 : Nat) : Int) - 1) = (i : Int) := by rw [IntKind.wrap_i64]; omega
    have q3 : IntKind.i64.wrap ((i : Int) + 1 - 1) = (i : Int) := by rw [IntKind.wrap_i64]; omega
    by_cases hxz : x = 0
    · subst hxz
      have HS2 : Hid (lastP xs od m = lastP xs od i) := by
       show _ = _
       rw [hs]; rfl
      clear hs HS hd hx hdn
      go_wp2
      go_roundw
      case rel => exact ⟨i, by omega, by go_num, HS2.out, by first | rfl | trivial⟩
      case measure => simp [intOf] <;> omega
    · have HR : Hid (lastP xs od m = i + 1) := by
       show _ = _
       rw [hs, if_pos hxz]
      have x5 : (x == 0) = false := beq_eq_false_iff_ne.2 hxz
      have x6 : (x != 0) = true := bne_iff_ne.2 hxz
      clear hs HS hd hx hdn
      go_wp2
      go_ret
      exact ⟨by rw [HR.out]; rfl, rfl⟩
def isLv (v : Int) : Bool := decide (-16320 ≤ v) && decide (v ≤ 16320)
section
variable {σ : Type}
def cdM (M : Mc σ) (B : Nat) (xs : List Int) (fin : Nat) : List Nat → Nat → List Int → Ms σ → (Option Nat × List Int) × Ms σ
 | [], _, ys, s => ((none, ys), s)
 | k :: tl, i, ys, s =>
   if tl = [] then
    if isLv (lvM M (B + 17) (xs.getD k 0) s).1 then ((none, ys.set k (lvM M (B + 17) (xs.getD k 0) s).1), (lvM M (B + 17) (xs.getD k 0) s).2)
    else ((some i, ys), (lvM M (B + 17) (xs.getD k 0) s).2)
   else if (bitM M s ((B + min i 7 + 1 : Nat) : Int) (decide (xs.getD k 0 ≠ 0))).1 then
    if isLv (lvM M (B + 17) (xs.getD k 0) (bitM M s ((B + min i 7 + 1 : Nat) : Int) (decide (xs.getD k 0 ≠ 0))).2).1 then
     if (bitM M (lvM M (B + 17) (xs.getD k 0) (bitM M s ((B + min i 7 + 1 : Nat) : Int) (decide (xs.getD k 0 ≠ 0))).2).2 ((B + min i 7 + 9 : Nat) : Int) (decide (fin ≤ i))).1 then
      ((none, ys.set k (lvM M (B + 17) (xs.getD k 0) (bitM M s ((B + min i 7 + 1 : Nat) : Int) (decide (xs.getD k 0 ≠ 0))).2).1), (bitM M (lvM M (B + 17) (xs.getD k 0) (bitM M s ((B + min i 7 + 1 : Nat) : Int) (decide (xs.getD k 0 ≠ 0))).2).2 ((B + min i 7 + 9 : Nat) : Int) (decide (fin ≤ i))).2)
     else cdM M B xs fin tl (i + 1) (ys.set k (lvM M (B + 17) (xs.getD k 0) (bitM M s ((B + min i 7 + 1 : Nat) : Int) (decide (xs.getD k 0 ≠ 0))).2).1) (bitM M (lvM M (B + 17) (xs.getD k 0) (bitM M s ((B + min i 7 + 1 : Nat) : Int) (decide (xs.getD k 0 ≠ 0))).2).2 ((B + min i 7 + 9 : Nat) : Int) (decide (fin ≤ i))).2
    else ((some i, ys), (lvM M (B + 17) (xs.getD k 0) (bitM M s ((B + min i 7 + 1 : Nat) : Int) (decide (xs.getD k 0 ≠ 0))).2).2)
   else cdM M B xs fin tl (i + 1) ys (bitM M s ((B + min i 7 + 1 : Nat) : Int) (decide (xs.getD k 0 ≠ 0))).2
variable {M : Mc σ} {B : Nat} {xs : List Int} {fin : Nat}
theorem cd_end {k i : Nat} {ys : List Int} {s s1 : Ms σ} {v : Int} (h : lvM M (B + 17) (xs.getD k 0) s = (v, s1)) : cdM M B xs fin [k] i ys s = if isLv v then ((none, ys.set k v), s1) else ((some i, ys), s1) := by
 unfold cdM
 rw [if_pos rfl, h]
theorem cd_skip {k i : Nat} {tl : List Nat} {ys : List Int} {s s1 : Ms σ} (ht : tl ≠ []) (h : bitM M s ((B + min i 7 + 1 : Nat) : Int) (decide (xs.getD k 0 ≠ 0)) = (false, s1)) : cdM M B xs fin (k :: tl) i ys s = cdM M B xs fin tl (i + 1) ys s1 := by
 rw [cdM, if_neg ht, h]
 rfl
theorem cd_bad {k i : Nat} {tl : List Nat} {ys : List Int} {s s1 s2 : Ms σ} {v : Int} (ht : tl ≠ []) (h : bitM M s ((B + min i 7 + 1 : Nat) : Int) (decide (xs.getD k 0 ≠ 0)) = (true, s1)) (h2 : lvM M (B + 17) (xs.getD k 0) s1 = (v, s2)) (h3 : isLv v = false) : cdM M B xs fin (k :: tl) i ys s = ((some i, ys), s2) := by
 rw [cdM, if_neg ht, h, if_pos rfl]
 show (if isLv (lvM M (B + 17) (xs.getD k 0) s1).1 = true then _ else ((some i, ys), (lvM M (B + 17) (xs.getD k 0) s1).2)) = _
 rw [h2, h3]
 rfl
theorem cd_on {k i : Nat} {tl : List Nat} {ys : List Int} {s s1 s2 s3 : Ms σ} {v : Int} {b : Bool} (ht : tl ≠ []) (h : bitM M s ((B + min i 7 + 1 : Nat) : Int) (decide (xs.getD k 0 ≠ 0)) = (true, s1)) (h2 : lvM M (B + 17) (xs.getD k 0) s1 = (v, s2)) (h3 : isLv v = true) (h4 : bitM M s2 ((B + min i 7 + 9 : Nat) : Int) (decide (fin ≤ i)) = (b, s3)) : cdM M B xs fin (k :: tl) i ys s = if b then ((none, ys.set k v), s3) else cdM M B xs fin tl (i + 1) (ys.set k v) s3 := by
 rw [cdM, if_neg ht, h, if_pos rfl]
 simp only [h2, h3, h4, if_true]
end
inductive Pg (α : Type) where
 | ret (a : α) : Pg α
 | bit (c : Int) (b : Bool) (k : Bool → Pg α) : Pg α
 | fla (b : Bool) (k : Bool → Pg α) : Pg α
def Pg.bind {α β : Type} : Pg α → (α → Pg β) → Pg β
 | .ret a, g => g a
 | .bit c b k, g => .bit c b (fun x => (k x).bind g)
 | .fla b k, g => .fla b (fun x => (k x).bind g)
section
variable {α β σ τ : Type}
def Pg.run (M : Mc σ) : Pg α → Ms σ → α × Ms σ
 | .ret a, s => (a, s)
 | .bit c b k, s => (k (bitM M s c b).1).run M (bitM M s c b).2
 | .fla b k, s => (k (flaM M s b).1).run M (flaM M s b).2
theorem Pg.run_bind (M : Mc σ) (g : α → Pg β) : ∀ (p : Pg α) (s : Ms σ), (p.bind g).run M s = (g (p.run M s).1).run M (p.run M s).2
 | .ret _, _ => rfl
 | .bit _ _ k, _ => Pg.run_bind M g (k _) _
 | .fla _ k, _ => Pg.run_bind M g (k _) _
def Pg.dep : Pg α → Nat → Prop
 | .ret _, _ => True
 | .bit _ _ _, 0 => False
 | .bit _ _ k, n + 1 => ∀ x, (k x).dep n
 | .fla _ _, 0 => False
 | .fla _ k, n + 1 => ∀ x, (k x).dep n
theorem Pg.dep_ret (a : α) (n : Nat) : (Pg.ret a).dep n := trivial
theorem Pg.dep_mono : ∀ {p : Pg α} {n m : Nat}, p.dep n → n ≤ m → p.dep m
 | .ret _, _, _, _, _ => trivial
 | .bit _ _ _, n + 1, m + 1, h, k => fun x => Pg.dep_mono (h x) (by omega)
 | .fla _ _, n + 1, m + 1, h, k => fun x => Pg.dep_mono (h x) (by omega)
theorem Pg.dep_bind {g : α → Pg β} {m : Nat} (hg : ∀ a, (g a).dep m) : ∀ {p : Pg α} {n : Nat}, p.dep n → (p.bind g).dep (n + m)
 | .ret _, _, _ => Pg.dep_mono (hg _) (by omega)
 | .bit _ _ _, n + 1, h => by
   rw [show n + 1 + m = (n + m) + 1 by omega]
   exact fun x => Pg.dep_bind hg (h x)
 | .fla _ _, n + 1, h => by
   rw [show n + 1 + m = (n + m) + 1 by omega]
   exact fun x => Pg.dep_bind hg (h x)
theorem Pg.ok {M : Mc σ} {ok : Nat → σ → Prop} (m : Mk M ok) : ∀ {p : Pg α} {n N : Nat} {s : Ms σ}, p.dep n → okS ok N s → okS ok (N + 4 * n) (p.run M s).2
 | .ret _, _, _, _, _, h => h.mono m (by omega)
 | .bit c b k, n + 1, N, s, hd, h => by
   have := Pg.ok m (hd (bitM M s c b).1) (bit_ok m c b h)
   rw [show N + 4 + 4 * n = N + 4 * (n + 1) by omega] at this
   exact this
 | .fla b k, n + 1, N, s, hd, h => by
   have := Pg.ok m (hd (flaM M s b).1) (fla_ok m b h)
   rw [show N + 4 + 4 * n = N + 4 * (n + 1) by omega] at this
   exact this
end
def rzP (u : Int) : Nat → Nat → Pg Nat
 | 0, z => .ret z
 | f + 1, z => .fla (geAt u z) (fun v => if v then rzP u f (z + 1) else .ret z)
def rbP (u : Int) : Nat → Nat → Pg Nat
 | 0, c => .ret c
 | k + 1, c => .fla (bitAt u k) (fun v => rbP u k (2 * c + if v then 1 else 0))
def rstP (u : Int) : Pg Nat := (rzP u 13 0).bind (fun z => rbP u z 1)
def csP (C : Nat) (z : Int) : Nat → Nat → Pg Nat
 | 0, _ => (rstP (z - 13)).bind (fun r => .ret (13 + r))
 | f + 1, n => .bit ((C + min n 7 : Nat) : Int) (decide ((n : Int) < z)) (fun v => if v then csP C z f (n + 1) else .ret n)
def lvP (C : Nat) (v : Int) : Pg Int := .fla (decide (v < 0)) (fun m => (csP C ((v.natAbs : Int) - 1) 14 0).bind (fun r => .ret (if m then -((r : Int) + 1) else (r : Int) + 1)))
def cdP (B : Nat) (xs : List Int) (fin : Nat) : List Nat → Nat → List Int → Pg (Option Nat × List Int)
 | [], _, ys => .ret (none, ys)
 | k :: tl, i, ys =>
   if tl = [] then (lvP (B + 17) (xs.getD k 0)).bind (fun v => if isLv v then .ret (none, ys.set k v) else .ret (some i, ys))
   else .bit ((B + min i 7 + 1 : Nat) : Int) (decide (xs.getD k 0 ≠ 0)) (fun c => if c then (lvP (B + 17) (xs.getD k 0)).bind (fun v => if isLv v then .bit ((B + min i 7 + 9 : Nat) : Int) (decide (fin ≤ i)) (fun e => if e then .ret (none, ys.set k v) else cdP B xs fin tl (i + 1) (ys.set k v)) else .ret (some i, ys)) else cdP B xs fin tl (i + 1) ys)
def coefS : ByteArray := { data := #[99, 111, 101, 102] }
def noLv (x : Int) : Bool := !isLv x
def sqB (n : Nat) : Nat := if n = 16 then 14 else 39
def sqO (n : Nat) : List Nat := if n = 16 then zigPre 4 7 else zigPre 8 15
def zsL (n : Nat) : List Int := List.replicate n 0
def cdR (r : Option Nat × List Int) : Fall × List Int := match r with
 | (none, ys) => (none, ys)
 | (some i, _) => (some ([(coefS, (i : Int))], 3), [])
def codP (xs : List Int) : Pg (Fall × List Int) :=
 if xs.length = 16 ∨ xs.length = 64 then
  if xs.any noLv then .ret (range, [])
  else .bit ((sqB xs.length : Nat) : Int) (xs.any nzB) (fun c => if c then (cdP (sqB xs.length) xs (lastP xs (sqO xs.length) (xs.length - 1)) (sqO xs.length) 0 (zsL xs.length)).bind (fun r => .ret (cdR r)) else .ret (none, zsL xs.length))
 else .ret (fit, [])
section
variable {σ : Type} {M : Mc σ}
theorem rz_run (u : Int) : ∀ (f z : Nat) (s : Ms σ), (rzP u f z).run M s = rzM M u f z s
 | 0, _, _ => rfl
 | f + 1, z, s => by
   show Pg.run M (if (flaM M s (geAt u z)).1 = true then _ else _) _ = (if (flaM M s (geAt u z)).1 = true then _ else _)
   split
   · exact rz_run u f (z + 1) _
   · rfl
theorem rb_run (u : Int) : ∀ (k c : Nat) (s : Ms σ), (rbP u k c).run M s = rbM M u k c s
 | 0, _, _ => rfl
 | k + 1, c, s => rb_run u k _ _
theorem rst_run (u : Int) (s : Ms σ) : (rstP u).run M s = rstM M u s := by
 unfold rstP rstM
 rw [Pg.run_bind, rb_run, rz_run]
theorem cs_run (C : Nat) (z : Int) : ∀ (f n : Nat) (s : Ms σ), (csP C z f n).run M s = csM M C z f n s
 | 0, _, s => by
   show ((rstP (z - 13)).bind _).run M s = _
   rw [Pg.run_bind, rst_run]
   rfl
 | f + 1, n, s => by
   show Pg.run M (if (bitM M s ((C + min n 7 : Nat) : Int) (decide ((n : Int) < z))).1 = true then _ else _) _ = (if (bitM M s ((C + min n 7 : Nat) : Int) (decide ((n : Int) < z))).1 = true then _ else _)
   split
   · exact cs_run C z f (n + 1) _
   · rfl
theorem lv_run (C : Nat) (v : Int) (s : Ms σ) : (lvP C v).run M s = lvM M C v s := by
 show ((csP C ((v.natAbs : Int) - 1) 14 0).bind _).run M _ = _
 rw [Pg.run_bind, cs_run]
 rfl
theorem cd_run (B : Nat) (xs : List Int) (fin : Nat) : ∀ (od : List Nat) (i : Nat) (ys : List Int) (s : Ms σ), (cdP B xs fin od i ys).run M s = cdM M B xs fin od i ys s
 | [], _, _, _ => rfl
 | k :: tl, i, ys, s => by
   by_cases ht : tl = []
   · subst ht
     unfold cdP
     obtain ⟨⟨v, s1⟩, e⟩ : ∃ r, lvM M (B + 17) (xs.getD k 0) s = r := ⟨_, rfl⟩
     rw [if_pos rfl, Pg.run_bind, lv_run, cd_end e, e]
     show Pg.run M (if isLv v = true then _ else _) s1 = _
     split <;> rfl
   · unfold cdP
     rw [if_neg ht]
     show Pg.run M (if (bitM M s ((B + min i 7 + 1 : Nat) : Int) (decide (xs.getD k 0 ≠ 0))).1 = true then _ else _) _ = _
     obtain ⟨⟨b, s1⟩, e⟩ : ∃ r, bitM M s ((B + min i 7 + 1 : Nat) : Int) (decide (xs.getD k 0 ≠ 0)) = r := ⟨_, rfl⟩
     rw [e]
     cases b
     · rw [cd_skip ht e]
       exact cd_run B xs fin tl (i + 1) ys s1
     · show Pg.run M (Pg.bind _ _) s1 = _
       rw [Pg.run_bind, lv_run]
       obtain ⟨⟨v, s2⟩, e2⟩ : ∃ r, lvM M (B + 17) (xs.getD k 0) s1 = r := ⟨_, rfl⟩
       rw [e2]
       cases hv : isLv v
       · rw [cd_bad ht e e2 hv]
         rfl
       · obtain ⟨⟨c, s3⟩, e3⟩ : ∃ r, bitM M s2 ((B + min i 7 + 9 : Nat) : Int) (decide (fin ≤ i)) = r := ⟨_, rfl⟩
         rw [cd_on ht e e2 hv e3]
         show Pg.run M (if (bitM M s2 ((B + min i 7 + 9 : Nat) : Int) (decide (fin ≤ i))).1 = true then _ else _) (bitM M s2 ((B + min i 7 + 9 : Nat) : Int) (decide (fin ≤ i))).2 = _
         rw [e3]
         cases c
         · exact cd_run B xs fin tl (i + 1) _ s3
         · rfl
end
theorem rb_dep (u : Int) : ∀ (k c : Nat), (rbP u k c).dep k
 | 0, _ => trivial
 | k + 1, _ => fun _ => rb_dep u k _
theorem rz_bindle {β : Type} (u : Int) {m : Nat} {g : Nat → Pg β} : ∀ (f z : Nat), (∀ y, z ≤ y → y ≤ z + f → (g y).dep m) → ((rzP u f z).bind g).dep (f + m)
 | 0, z, hg => by rw [Nat.zero_add]; exact hg z (Nat.le_refl _) (by omega)
 | f + 1, z, hg => by
   rw [show f + 1 + m = (f + m) + 1 by omega]
   intro v
   show Pg.dep (Pg.bind (if v = true then _ else _) g) (f + m)
   split
   · exact rz_bindle u f (z + 1) (fun y h1 h2 => hg y (by omega) (by omega))
   · exact Pg.dep_mono (hg z (Nat.le_refl _) (by omega)) (by omega)
theorem rst_dep (u : Int) : (rstP u).dep 26 := rz_bindle (m := 13) u 13 0 (fun y _ h => Pg.dep_mono (rb_dep u y 1) (by omega))
theorem cs_dep (C : Nat) (z : Int) : ∀ (f n : Nat), (csP C z f n).dep (f + 26)
 | 0, _ => Pg.dep_bind (m := 0) (fun _ => Pg.dep_ret _ _) (rst_dep (z - 13))
 | f + 1, n => by
   rw [show f + 1 + 26 = (f + 26) + 1 by omega]
   intro v
   show Pg.dep (if v = true then _ else _) (f + 26)
   split
   · exact cs_dep C z f (n + 1)
   · trivial
theorem lv_dep (C : Nat) (v : Int) : (lvP C v).dep 41 := fun _ => Pg.dep_bind (m := 0) (fun _ => Pg.dep_ret _ _) (cs_dep C _ 14 0)
theorem cd_dep (B : Nat) (xs : List Int) (fin : Nat) : ∀ (od : List Nat) (i : Nat) (ys : List Int), (cdP B xs fin od i ys).dep (43 * od.length)
 | [], _, _ => trivial
 | k :: tl, i, ys => by
   unfold cdP
   split
   · refine Pg.dep_mono (n := 41 + 0) (Pg.dep_bind (fun v => ?_) (lv_dep _ _)) (by simp only [List.length_cons]; omega)
     split <;> trivial
   · have e : 43 * (k :: tl).length = 42 + 43 * tl.length + 1 := by rw [List.length_cons]; omega
     rw [e]
     intro c
     show Pg.dep (if c = true then _ else _) _
     split
     · refine Pg.dep_mono (n := 41 + (1 + 43 * tl.length)) (Pg.dep_bind (fun v => ?_) (lv_dep _ _)) (by omega)
       split
       · rw [Nat.add_comm 1]
         intro x
         show Pg.dep (if x = true then _ else _) _
         split
         · trivial
         · exact cd_dep B xs fin tl (i + 1) _
       · trivial
     · exact Pg.dep_mono (cd_dep B xs fin tl (i + 1) ys) (by omega)
theorem sqO_len {n : Nat} (h : n = 16 ∨ n = 64) : (sqO n).length = n := by
 rcases h with rfl | rfl
 · exact zig_len.1
 · exact zig_len.2
theorem cod_dep (xs : List Int) : (codP xs).dep (43 * xs.length + 1) := by
 unfold codP
 split
 · rename_i hn
   split
   · trivial
   · intro c
     show Pg.dep (if c = true then _ else _) _
     split
     · have := Pg.dep_bind (m := 0) (g := fun r => Pg.ret (cdR r)) (fun _ => trivial) (cd_dep (sqB xs.length) xs (lastP xs (sqO xs.length) (xs.length - 1)) (sqO xs.length) 0 (zsL xs.length))
       rw [sqO_len hn] at this
       exact this
     · trivial
 · trivial
theorem sqO_all {n : Nat} (h : n = 16 ∨ n = 64) : (sqO n).Nodup ∧ (∀ k ∈ sqO n, k < n) ∧ ∀ j, j < n → j ∈ sqO n := by
 rcases h with rfl | rfl
 · exact ⟨zig_once.1, zig_once.2.2.1, by decide +kernel⟩
 · exact ⟨zig_once.2.1, zig_once.2.2.2, by decide +kernel⟩
theorem lv_of_any {xs : List Int} (h : xs.any noLv = false) : ∀ x ∈ xs, isLv x = true := fun x hx => by
 have := List.any_eq_false.1 h x hx
 unfold noLv at this
 simpa using this
theorem cd_lens (B : Nat) (xs : List Int) (fin : Nat) {σ : Type} {M : Mc σ} : ∀ (od : List Nat) (i : Nat) (ys : List Int) (s : Ms σ), (∀ y ∈ ys, isLv y = true) → (∀ ys', ((cdP B xs fin od i ys).run M s).1 = (none, ys') → ys'.length = ys.length ∧ ∀ y ∈ ys', isLv y = true) ∧ ∀ q ys', ((cdP B xs fin od i ys).run M s).1 = (some q, ys') → i ≤ q ∧ q < i + od.length
 | [], i, ys, s, h => ⟨fun ys' e => by
    have e : ((none : Option Nat), ys) = (none, ys') := e
    simp only [Prod.mk.injEq, true_and] at e
    subst e
    exact ⟨rfl, h⟩, fun q ys' e => by
    have e : ((none : Option Nat), ys) = (some q, ys') := e
    simp at e⟩
 | k :: tl, i, ys, s, h => by
   have hset : ∀ v, isLv v = true → ∀ y ∈ ys.set k v, isLv y = true := fun v hv y hy => by
    rcases List.mem_or_eq_of_mem_set hy with h1 | h1
    · exact h y h1
    · rw [h1]; exact hv
   have base : ∀ v (s : Ms σ), (∀ ys', ((if isLv v = true then Pg.ret (none, ys.set k v) else Pg.ret (some i, ys)).run M s).1 = (none, ys') → ys'.length = ys.length ∧ ∀ y ∈ ys', isLv y = true) ∧ ∀ q ys', ((if isLv v = true then Pg.ret (none, ys.set k v) else Pg.ret (some i, ys)).run M s).1 = (some q, ys') → i ≤ q ∧ q < i + (k :: tl).length := fun v s => by
    by_cases hv : isLv v = true
    · rw [if_pos hv]
      refine ⟨fun ys' e => ?_, fun q ys' e => ?_⟩
      · have e : ((none : Option Nat), ys.set k v) = (none, ys') := e
        simp only [Prod.mk.injEq, true_and] at e
        subst e
        exact ⟨List.length_set, hset v hv⟩
      · have e : ((none : Option Nat), ys.set k v) = (some q, ys') := e
        simp at e
    · rw [if_neg hv]
      refine ⟨fun ys' e => ?_, fun q ys' e => ?_⟩
      · have e : (some i, ys) = ((none : Option Nat), ys') := e
        simp at e
      · have e : (some i, ys) = (some q, ys') := e
        simp only [Prod.mk.injEq, Option.some.injEq] at e
        rw [← e.1, List.length_cons]
        omega
   unfold cdP
   by_cases ht : tl = []
   · rw [if_pos ht, Pg.run_bind]
     exact base _ _
   · rw [if_neg ht]
     show (∀ ys', ((Pg.run M (if (bitM M s ((B + min i 7 + 1 : Nat) : Int) (decide (xs.getD k 0 ≠ 0))).1 = true then _ else _) _).1 = (none, ys') → _)) ∧ ∀ q ys', ((Pg.run M (if (bitM M s ((B + min i 7 + 1 : Nat) : Int) (decide (xs.getD k 0 ≠ 0))).1 = true then _ else _) _).1 = (some q, ys') → _)
     have next : ∀ (zs : List Int) (s : Ms σ), zs.length = ys.length → (∀ y ∈ zs, isLv y = true) → (∀ ys', ((cdP B xs fin tl (i + 1) zs).run M s).1 = (none, ys') → ys'.length = ys.length ∧ ∀ y ∈ ys', isLv y = true) ∧ ∀ q ys', ((cdP B xs fin tl (i + 1) zs).run M s).1 = (some q, ys') → i ≤ q ∧ q < i + (k :: tl).length := fun zs s hl hv => by
      obtain ⟨a1, a2⟩ := cd_lens B xs fin tl (i + 1) zs s hv
      refine ⟨fun ys' e => ?_, fun q ys' e => ?_⟩
      · obtain ⟨b1, b2⟩ := a1 ys' e
        exact ⟨b1.trans hl, b2⟩
      · have := a2 q ys' e
        rw [List.length_cons]
        omega
     cases (bitM M s ((B + min i 7 + 1 : Nat) : Int) (decide (xs.getD k 0 ≠ 0))).1
     · rw [if_neg (by decide)]
       exact next ys _ rfl h
     · rw [if_pos rfl, Pg.run_bind]
       generalize ((lvP (B + 17) (xs.getD k 0)).run M (bitM M s ((B + min i 7 + 1 : Nat) : Int) (decide (xs.getD k 0 ≠ 0))).2) = r
       obtain ⟨v, s2⟩ := r
       cases hv : isLv v
       · have := base v s2
         rw [if_neg (by rw [hv]; decide)] at this
         exact this
       · show (∀ ys', ((Pg.run M (if (bitM M s2 ((B + min i 7 + 9 : Nat) : Int) (decide (fin ≤ i))).1 = true then _ else _) _).1 = (none, ys') → _)) ∧ ∀ q ys', ((Pg.run M (if (bitM M s2 ((B + min i 7 + 9 : Nat) : Int) (decide (fin ≤ i))).1 = true then _ else _) _).1 = (some q, ys') → _)
         cases (bitM M s2 ((B + min i 7 + 9 : Nat) : Int) (decide (fin ≤ i))).1
         · rw [if_neg (by decide)]
           exact next _ _ List.length_set (hset v hv)
         · rw [if_pos rfl]
           have := base v (bitM M s2 ((B + min i 7 + 9 : Nat) : Int) (decide (fin ≤ i))).2
           rw [if_pos hv] at this
           exact this
theorem cod_ans {σ : Type} {M : Mc σ} {xs : List Int} (s : Ms σ) (hn : xs.length = 16 ∨ xs.length = 64) (h : xs.any noLv = false) : (∃ ys, ((codP xs).run M s).1 = (none, ys) ∧ ys.length = xs.length ∧ ∀ y ∈ ys, isLv y = true) ∨ ∃ q, q < xs.length ∧ ((codP xs).run M s).1 = (some ([(coefS, (q : Int))], 3), []) := by
 unfold codP
 rw [if_pos hn, h, if_neg (by decide)]
 show (∃ ys, (Pg.run M (if (bitM M s ((sqB xs.length : Nat) : Int) (xs.any nzB)).1 = true then _ else _) _).1 = (none, ys) ∧ _) ∨ ∃ q, q < xs.length ∧ (Pg.run M (if (bitM M s ((sqB xs.length : Nat) : Int) (xs.any nzB)).1 = true then _ else _) _).1 = _
 have hz0 : ∀ y ∈ zsL xs.length, isLv y = true := fun y hy => by
  unfold zsL at hy
  rw [(List.mem_replicate.1 hy).2]
  decide
 cases (bitM M s ((sqB xs.length : Nat) : Int) (xs.any nzB)).1
 · rw [if_neg (by decide)]
   exact .inl ⟨zsL xs.length, rfl, by simp [zsL], hz0⟩
 · rw [if_pos rfl, Pg.run_bind]
   obtain ⟨a1, a2⟩ := cd_lens (sqB xs.length) xs (lastP xs (sqO xs.length) (xs.length - 1)) (M := M) (sqO xs.length) 0 (zsL xs.length) (bitM M s ((sqB xs.length : Nat) : Int) (xs.any nzB)).2 hz0
   generalize ((cdP (sqB xs.length) xs (lastP xs (sqO xs.length) (xs.length - 1)) (sqO xs.length) 0 (zsL xs.length)).run M (bitM M s ((sqB xs.length : Nat) : Int) (xs.any nzB)).2) = r at a1 a2
   obtain ⟨⟨o, ys⟩, s2⟩ := r
   cases o with
   | none =>
     obtain ⟨b1, b2⟩ := a1 ys rfl
     exact .inl ⟨ys, rfl, by rw [b1]; simp [zsL], b2⟩
   | some q =>
     have := a2 q ys rfl
     rw [sqO_len hn] at this
     exact .inr ⟨q, by omega, rfl⟩
def QPost {σ : Type} (A : World → (Nat → Prop) → σ → Prop) (R : Ending → σ → Prop) (F : Nat → Prop) (w : World) (e : Ending) (w' : World) : Prop := ∃ s G, R e s ∧ A w' G s ∧ Step F w G w'
section
variable {σ σ' τ τ' : Type} {A : World → (Nat → Prop) → σ → Prop} {A' : World → (Nat → Prop) → σ' → Prop} {B : World → (Nat → Prop) → τ → Prop} {B' : World → (Nat → Prop) → τ' → Prop} {w0 w w' : World}
theorem Sep.new (a : Obj A) {s : σ} {t : τ} {F G : Nat → Prop} (h : A w F s) (k : Ext w w') (hb : B w' G t) (hG : ∀ k, G k → w.heap.size ≤ k) : Sep A B w' (fun i => F i ∨ G i) (s, t) ∧ Step F w (fun i => F i ∨ G i) w' := by
 refine ⟨⟨F, G, a.same h (fun i hi => k.block (a.lt h i hi)), hb, fun i hi hf => by have := a.lt h i hf; have := hG i hi; omega, fun _ => Iff.rfl⟩, (Step.of_ext (F := F) k).1, ?_⟩
 rintro i (hi | hi)
 · exact .inl hi
 · exact .inr (hG i hi)
theorem Obj.ext (a : Obj A) {s : σ} {F : Nat → Prop} (h : A w F s) (k : Ext w w') : A w' F s := a.same h (fun i hi => k.block (a.lt h i hi))
theorem Sep.other {υ : Type} {C : World → (Nat → Prop) → υ → Prop} (a : Obj A) {s : σ} {t : τ} {u : υ} {F F0 H : Nat → Prop} {v0 : World} (h : Sep A B w F (s, t)) (k : Ext w w') (hc : C w' H u) (hH : ∀ k, H k → w.heap.size ≤ k) (st : Step F0 v0 F w) : ∃ G, Sep A C w' G (s, u) ∧ Step F0 v0 G w' := by
 obtain ⟨F1, F2, h1, h2, h3, h4⟩ := h
 obtain ⟨k1, k2⟩ := Sep.new a h1 k hc hH
 have st2 := st.ext k
 refine ⟨_, k1, st2.1, ?_⟩
 rintro i (hi | hi)
 · exact st2.2 i ((h4 i).2 (.inl hi))
 · exact .inr (Nat.le_trans st.1.2.1 (hH i hi))
theorem Uno.fst {s : σ} {t : τ} (h : Uno (Sep A B) w0 w (s, t)) : Uno A w0 w s := by
 obtain ⟨F, ⟨F1, F2, h1, h2, h3, h4⟩, h5, h6⟩ := h
 exact ⟨F1, h1, h5, fun k hk => h6 k ((h4 k).2 (.inl hk))⟩
theorem Uno.assoc {υ : Type} {C : World → (Nat → Prop) → υ → Prop} {s : σ} {t : τ} {u : υ} (h : Uno (Sep (Sep A B) C) w0 w ((s, t), u)) : Uno (Sep (Sep A C) B) w0 w ((s, u), t) := by
 obtain ⟨F, ⟨F1, F2, ⟨G1, G2, g1, g2, g3, g4⟩, h2, h3, h4⟩, h5, h6⟩ := h
 refine ⟨F, ⟨fun k => G1 k ∨ F2 k, G2, ⟨G1, F2, g1, h2, fun k hk hf => h3 k hk ((g4 k).2 (.inl hf)), fun _ => Iff.rfl⟩, g2, fun k hk hf => hf.elim (fun h => g3 k hk h) (fun h => h3 k h ((g4 k).2 (.inr hk))), fun k => ?_⟩, h5, h6⟩
 have e1 := h4 k
 have e2 := g4 k
 constructor
 · intro h
   rcases e1.1 h with h | h
   · rcases e2.1 h with h | h
     · exact .inl (.inl h)
     · exact .inr h
   · exact .inl (.inr h)
 · rintro ((h | h) | h)
   · exact e1.2 (.inl (e2.2 (.inl h)))
   · exact e1.2 (.inr h)
   · exact e1.2 (.inl (e2.2 (.inr h)))
end
def HoF (w : World) (F : Nat → Prop) (P : World → Prop) : Prop := (∀ k, F k → k < w.heap.size) ∧ ∀ w', (∀ i, F i → w'.heap[i]? = w.heap[i]?) → P w'
theorem lt_of_same {w w' : World} {F : Nat → Prop} (h : ∀ k, F k → k < w.heap.size) (k : ∀ i, F i → w'.heap[i]? = w.heap[i]?) : ∀ i, F i → i < w'.heap.size := fun i hi => by
 have e := k i hi
 rw [Array.getElem?_eq_getElem (h i hi)] at e
 exact (Array.getElem?_eq_some_iff.1 e).1
theorem HoF.obj : Obj HoF := ⟨fun h => h.1, fun h k => ⟨lt_of_same h.1 k, fun w2 k2 => h.2 w2 (fun i hi => (k2 i hi).trans (k i hi))⟩⟩
theorem HoF.get {w : World} {F : Nat → Prop} {P : World → Prop} (h : HoF w F P) : P w := h.2 w (fun _ _ => rfl)
theorem HoF.and {w : World} {F G : Nat → Prop} {P Q : World → Prop} (h : HoF w F P) (k : HoF w G Q) : HoF w (fun i => F i ∨ G i) (fun W => P W ∧ Q W) :=
 ⟨fun i hi => hi.elim (h.1 i) (k.1 i), fun w' a => ⟨h.2 w' (fun i hi => a i (.inl hi)), k.2 w' (fun i hi => a i (.inr hi))⟩⟩
theorem HoF.imp {w : World} {F : Nat → Prop} {P Q : World → Prop} (h : HoF w F P) (k : ∀ W, P W → Q W) : HoF w F Q := ⟨h.1, fun w' a => k w' (h.2 w' a)⟩
theorem HoF.all {w : World} {P : World → Prop} (h : ∀ W, P W) : HoF w (fun _ => False) P := ⟨fun _ h => h.elim, fun w' _ => h w'⟩
theorem HoF.ext {w w' : World} {F : Nat → Prop} {P : World → Prop} (h : HoF w F P) (k : Ext w w') : HoF w' F P := HoF.obj.same h (fun i hi => k.block (h.1 i hi))
theorem HoF.row {w : World} {base : Nat} {t : TypeId} {size n : Nat} {v : Value} {xs : List Value} (h : w.ownsRow base t size v n xs) : HoF w (fun k => v.ownBlock = some k) (fun W => W.ownsRow base t size v n xs) :=
 ⟨fun k hk => (h.lt k hk).2, fun _ a => own_block h (fun g hg => a g hg)⟩
theorem HoF.cell {w : World} {b o : Nat} {v : Value} (h : w.cell? ⟨b, o, none⟩ = some v) : HoF w (fun k => k = b) (fun W => W.cell? ⟨b, o, none⟩ = some v) :=
 ⟨fun k hk => by rw [hk]; exact Ext.lt h, fun _ a => (World.cell?_of_block (a := ⟨b, o, none⟩) (a b rfl)).trans h⟩
theorem HoF.and' {w : World} {F : Nat → Prop} {P Q : World → Prop} (h : HoF w F P) (k : HoF w F Q) : HoF w F (fun W => P W ∧ Q W) := ⟨h.1, fun w' a => ⟨h.2 w' a, k.2 w' a⟩⟩
theorem Uno.held {σ : Type} {A : World → (Nat → Prop) → σ → Prop} {w0 w : World} {s : σ} {P : World → Prop} (h : Uno (Sep A HoF) w0 w (s, P)) : P w := by
 obtain ⟨_, h⟩ := h.r
 exact h.get
theorem Sep.imp {σ τ τ' : Type} {A : World → (Nat → Prop) → σ → Prop} {B : World → (Nat → Prop) → τ → Prop} {B' : World → (Nat → Prop) → τ' → Prop} {w : World} {F : Nat → Prop} {s : σ} {t : τ} {t' : τ'} (h : Sep A B w F (s, t)) (k : ∀ G, B w G t → B' w G t') : Sep A B' w F (s, t') := by
 obtain ⟨F1, F2, h1, h2, h3, h4⟩ := h
 exact ⟨F1, F2, h1, k _ h2, h3, h4⟩
theorem Sep.pure {σ : Type} {A : World → (Nat → Prop) → σ → Prop} {w : World} {F : Nat → Prop} {s : σ} {P : World → Prop} (h : A w F s) (hp : ∀ W, P W) : Sep A HoF w F (s, P) := ⟨F, fun _ => False, h, HoF.all hp, fun _ hk => hk.elim, fun _ => ⟨.inl, fun k => k.elim id False.elim⟩⟩
theorem in_new (s : ByteArray) (n c : Int) (w : World) : Calls Tryz.prog 44 #[.string s, .int .i64 n, .iface 40 (.int .i64 c)] w fun e w' => ∃ u b, e = .returned u ∧ Ext w w' ∧ w.heap.size ≤ b ∧ HoF w' (fun k => k = b) (fun W => IsErr W [(s, n)] c u) := by
 have E1 : Ext w (w.alloc (.cells #[.string s, .int .i64 n, .iface 40 (.int .i64 c)] 120)) := (Ext.refl w).alloc _
 go_enter Tryz.func44, Tryz.ntmps44
 go_wp2
 go_ret
 refine ⟨_, w.heap.size, rfl, E1, Nat.le_refl _, ?_⟩
 exact ((HoF.cell (v := .string s) (o := 0) (by simp)).and' ((HoF.cell (v := .int .i64 n) (o := 1) (by simp)).and' (HoF.cell (v := .iface 40 (.int .i64 c)) (o := 2) (by simp)))).imp (fun W h => ⟨w.heap.size, _, rfl, h.1, h.2.1, h.2.2, rfl⟩)
theorem ownL_row {w : World} {base : Nat} {v : Value} {n : Nat} {ys : List Int} (hn : ys.length = n) (h : w.ownsRow base 3 1 v n (ys.map (Value.int .i64))) : w.ownsRow base 3 1 v n ((rowL n (fun i => ys.getD i 0)).map (Value.int .i64)) := by
 subst hn
 rw [rowL_getD]
 exact h
theorem rowL_set {ys : List Int} {k : Nat} {x : Int} (hk : k < ys.length) : rowL ys.length (fun i => if i = k then x else ys.getD i 0) = ys.set k x := by
 have e := rowL_getD (ys.set k x)
 rw [List.length_set] at e
 rw [← e]
 unfold rowL
 refine List.map_congr_left (fun j _ => ?_)
 rw [List.getD_eq_getElem?_getD, List.getD_eq_getElem?_getD, List.getElem?_set]
 by_cases e : j = k
 · subst e; rw [if_pos rfl, if_pos rfl, if_pos hk]; rfl
 · rw [if_neg e, if_neg (fun h => e h.symm)]
theorem TlF.at {w : World} {F : Nat → Prop} {g n cap k : Nat} {ys : List Int} {y : Int} (h : TlF w F (.slice (some ⟨g, 0, none⟩) n cap, ys)) (hy : ys[k]? = some y) : w.cell? ⟨g, k, none⟩ = some (.int .i64 y) ∧ w.frozen? ⟨g, k, none⟩ = false := by
 have hk := (List.getElem?_eq_some_iff.1 hy).1
 have h1 := h.1
 have hl : n = ys.length := by
  obtain ⟨a, c, e⟩ := h.form
  simp only [Value.slice.injEq] at e
  exact e.2.1
 subst hl
 have := own_cell (ownL_row rfl h1) hk
 rw [show ys.getD k 0 = y by rw [List.getD_eq_getElem?_getD, hy]; rfl] at this
 exact this
theorem sep_set {σ : Type} {A : World → (Nat → Prop) → σ → Prop} (oa : Obj A) {w : World} {F : Nat → Prop} {s : σ} {g n cap k : Nat} {ys : List Int} {x : Int} (h : Sep A TlF w F (s, (.slice (some ⟨g, 0, none⟩) n cap, ys))) (hk : k < ys.length) :
 Sep A TlF (w.setCell ⟨g, k, none⟩ (.int .i64 x)) F (s, (.slice (some ⟨g, 0, none⟩) n cap, ys.set k x)) ∧ Step F w F (w.setCell ⟨g, k, none⟩ (.int .i64 x)) := by
 obtain ⟨F1, F2, h1, h2, h3, h4⟩ := h
 have hl : n = ys.length := by
  obtain ⟨a, c, e⟩ := h2.form
  simp only [Value.slice.injEq] at e
  exact e.2.1
 subst hl
 have hg2 : F2 g := (h2.2 g).2 rfl
 have hg : F g := (h4 g).2 (.inr hg2)
 have ho := own_set (x := x) (ownL_row rfl h2.1) hk
 rw [rowL_set hk] at ho
 refine ⟨⟨F1, F2, oa.same h1 (fun i hi => Below.heap_setCell _ _ _ _ (fun e => h3 g hg2 (by rw [show i = g from e] at hi; exact hi))), ⟨?_, h2.2⟩, h3, h4⟩, Step.of_kp ((Kp.refl g w).set k _) hg⟩
 show World.ownsRow _ _ _ _ _ (ys.set k x).length _
 rw [List.length_set]
 exact ho
theorem sep_at {σ : Type} {A : World → (Nat → Prop) → σ → Prop} {w : World} {F : Nat → Prop} {s : σ} {g n cap k : Nat} {ys : List Int} {y : Int} (h : Sep A TlF w F (s, (.slice (some ⟨g, 0, none⟩) n cap, ys))) (hy : ys[k]? = some y) : w.cell? ⟨g, k, none⟩ = some (.int .i64 y) ∧ w.frozen? ⟨g, k, none⟩ = false := by
 obtain ⟨F1, F2, h1, h2, h3, h4⟩ := h
 exact h2.at hy
theorem TlF.new {w : World} {v : Value} {ys : List Int} {n B : Nat} (hn : ys.length = n) (h : w.ownsRow B 3 1 v n (ys.map (Value.int .i64))) : TlF w (fun k => v.ownBlock = some k) (v, ys) ∧ ∀ k, v.ownBlock = some k → B ≤ k := by
 subst hn
 refine ⟨⟨?_, fun _ => Iff.rfl⟩, fun k hk => (h.lt k hk).1⟩
 obtain ⟨h1, h2⟩ := h
 refine ⟨h1, ?_⟩
 rcases h2 with h2 | ⟨g, cap, cur, e, hg, r⟩
 · exact .inl h2
 · exact .inr ⟨g, cap, cur, e, Nat.zero_le _, r⟩
theorem TlF.ho {w : World} {F : Nat → Prop} {v : Value} {ys : List Int} (h : TlF w F (v, ys)) (hl : ys.length ≤ 1000000) : HoF w F (fun W => Ints W v ys) := by
 refine ⟨fun k hk => TlF.obj.lt h k hk, fun w' a => ?_⟩
 have := (TlF.obj.same h a).1
 exact Ints.of_owns this (by omega)
theorem HoF.step {w w' : World} {F G H : Nat → Prop} {P : World → Prop} (h : HoF w H P) (hd : ∀ k, H k → ¬ F k) (st : Step F w G w') : P w' := h.2 w' (fun i hi => st.1.2.2 i (h.1 i hi) (hd i hi))
theorem cod_yes {σ : Type} {M : Mc σ} {xs : List Int} {s s1 : Ms σ} {b : Bool} (hn : xs.length = 16 ∨ xs.length = 64) (h : xs.any noLv = false) (e : bitM M s ((sqB xs.length : Nat) : Int) (xs.any nzB) = (b, s1)) :
 (codP xs).run M s = if b then (cdR (cdM M (sqB xs.length) xs (lastP xs (sqO xs.length) (xs.length - 1)) (sqO xs.length) 0 (zsL xs.length) s1).1, (cdM M (sqB xs.length) xs (lastP xs (sqO xs.length) (xs.length - 1)) (sqO xs.length) 0 (zsL xs.length) s1).2) else ((none, zsL xs.length), s1) := by
 unfold codP
 rw [if_pos hn, h, if_neg (by decide)]
 show Pg.run M (if (bitM M s ((sqB xs.length : Nat) : Int) (xs.any nzB)).1 = true then _ else _) (bitM M s ((sqB xs.length : Nat) : Int) (xs.any nzB)).2 = _
 rw [e]
 cases b
 · rfl
 · show Pg.run M (Pg.bind _ _) s1 = _
   rw [Pg.run_bind, cd_run]
   rfl
theorem cod_bad {σ : Type} {M : Mc σ} {xs : List Int} {s : Ms σ} (hn : xs.length = 16 ∨ xs.length = 64) (h : xs.any noLv = true) : (codP xs).run M s = ((range, []), s) := by
 unfold codP
 rw [if_pos hn, h, if_pos rfl]
 rfl
theorem cod_no {σ : Type} {M : Mc σ} {xs : List Int} {s : Ms σ} (hn : ¬ (xs.length = 16 ∨ xs.length = 64)) : (codP xs).run M s = ((fit, []), s) := by
 unfold codP
 rw [if_neg hn]
 rfl
def CodR {σ : Type} (r : (Fall × List Int) × Ms σ) (e : Ending) (p : Ms σ × (World → Prop)) : Prop := ∃ u x, e = .returned (.tuple #[u, x]) ∧ p = (r.2, fun W => Ints W u r.1.2 ∧ ErrIs W r.1.1 x)
theorem CodR.done {σ : Type} {A : World → (Nat → Prop) → Ms σ → Prop} {F G : Nat → Prop} {w w' : World} {r : (Fall × List Int) × Ms σ} {u x : Value} {ys : List Int} {f : Fall} {t : Ms σ} {P : World → Prop} (hr : r = ((f, ys), t)) (h : Sep A HoF w' G (t, P)) (hp : ∀ W, P W → Ints W u ys ∧ ErrIs W f x) (st : Step F w G w') : QPost (Sep A HoF) (CodR r) F w (.returned (.tuple #[u, x])) w' := by
 subst hr
 exact ⟨(t, fun W => Ints W u ys ∧ ErrIs W f x), G, ⟨u, x, rfl, rfl⟩, h.imp (fun _ k => k.imp hp), st⟩
def sqN (q : Nat) : Nat := if q = 16 then 4 else 8
theorem order_own {q : Nat} (hq : q = 16 ∨ q = 64) (w : World) : Calls Tryz.prog 169 #[.int .i64 ((sqN q : Nat) : Int)] w fun e w' => ∃ u, e = .returned u ∧ Ext w w' ∧ HoF w' (fun k => u.ownBlock = some k) (fun W => Ints W u ((sqO q).map fun (x : Nat) => (x : Int))) ∧ ∀ k, u.ownBlock = some k → w.heap.size ≤ k := by
 rcases hq with rfl | rfl
 · refine (ordown_4 w).mono ?_
   rintro e w' ⟨u, rfl, hx, h⟩
   rw [natC_ints] at h
   obtain ⟨h1, h2⟩ := TlF.new (n := (zigPre 4 7).length) (by simp [intsOf]) h
   exact ⟨u, rfl, hx, h1.ho (by have := zig_len.1; simp only [intsOf, List.length_map]; omega), h2⟩
 · refine (ordown_8 w).mono ?_
   rintro e w' ⟨u, rfl, hx, h⟩
   rw [natC_ints] at h
   obtain ⟨h1, h2⟩ := TlF.new (n := (zigPre 8 15).length) (by simp [intsOf]) h
   exact ⟨u, rfl, hx, h1.ho (by have := zig_len.2; simp only [intsOf, List.length_map]; omega), h2⟩
theorem side_16 (w : World) : Calls Tryz.prog 166 #[.int .i64 16] w fun e w' => e = .returned (.int .i64 4) ∧ w = w' := by
 go_enter Tryz.func166, Tryz.ntmps166
 go_wp2
 go_ret
 exact ⟨rfl, rfl⟩
theorem base_4 (w : World) : Calls Tryz.prog 167 #[.int .i64 4] w fun e w' => e = .returned (.int .i64 ((sqB 16 : Nat) : Int)) ∧ w = w' := by
 go_enter Tryz.func167, Tryz.ntmps167
 go_wp2
 go_ret
 exact ⟨rfl, rfl⟩
theorem side_64 (w : World) : Calls Tryz.prog 166 #[.int .i64 64] w fun e w' => e = .returned (.int .i64 8) ∧ w = w' := by
 go_enter Tryz.func166, Tryz.ntmps166
 go_wp2
 go_ret
 exact ⟨rfl, rfl⟩
theorem base_8 (w : World) : Calls Tryz.prog 167 #[.int .i64 8] w fun e w' => e = .returned (.int .i64 ((sqB 64 : Nat) : Int)) ∧ w = w' := by
 go_enter Tryz.func167, Tryz.ntmps167
 go_wp2
 go_ret
 exact ⟨rfl, rfl⟩
theorem side_sq {q : Nat} (hq : q = 16 ∨ q = 64) (w : World) : Calls Tryz.prog 166 #[.int .i64 (q : Int)] w fun e w' => e = .returned (.int .i64 ((sqN q : Nat) : Int)) ∧ w = w' := by
 rcases hq with rfl | rfl
 · exact side_16 w
 · exact side_64 w
theorem base_sq {q : Nat} (hq : q = 16 ∨ q = 64) (w : World) : Calls Tryz.prog 167 #[.int .i64 ((sqN q : Nat) : Int)] w fun e w' => e = .returned (.int .i64 ((sqB q : Nat) : Int)) ∧ w = w' := by
 rcases hq with rfl | rfl
 · exact base_4 w
 · exact base_8 w
theorem side_no (n : Int) (h1 : n ≠ 16) (h2 : n ≠ 64) (w : World) : Calls Tryz.prog 166 #[.int .i64 n] w fun e w' => e = .returned (.int .i64 0) ∧ w = w' := by
 have t1 : (n == 16) = false := by rw [beq_eq_false_iff_ne]; exact h1
 have t2 : (n == 64) = false := by rw [beq_eq_false_iff_ne]; exact h2
 clear h1 h2
 go_enter Tryz.func166, Tryz.ntmps166
 go_wp2
 go_ret
 exact ⟨rfl, rfl⟩
theorem islv_any (v : Int) (w : World) : Calls Tryz.prog 92 #[.int .i64 v] w fun e w' => e = .returned (.bool (isLv v)) ∧ w = w' := by
 unfold isLv
 by_cases h1 : -16320 ≤ v
 · by_cases h2 : v ≤ 16320
   · rw [decide_eq_true h1, decide_eq_true h2]
     go_enter Tryz.func92, Tryz.ntmps92
     go_wp2
     go_ret
     exact ⟨rfl, rfl⟩
   · rw [decide_eq_true h1, decide_eq_false h2]
     go_enter Tryz.func92, Tryz.ntmps92
     go_wp2
     go_ret
     exact ⟨rfl, rfl⟩
 · rw [decide_eq_false h1]
   go_enter Tryz.func92, Tryz.ntmps92
   go_wp2
   go_ret
   exact ⟨rfl, rfl⟩
end Go.Proofs.YtcekpngkfldgkaaGreatDoor