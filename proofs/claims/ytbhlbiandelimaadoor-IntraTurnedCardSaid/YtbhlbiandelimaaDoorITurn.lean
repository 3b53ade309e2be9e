/- kinlaw10.IntraTurned: the walk. -/
import Derived.Test.YtbhlbiandelimaaDoorIn2
import Derived.BigQuiet
import Derived.Deep.QuietTactic
namespace Go.Proofs.YtbhlbiandelimaaDoor
set_option linter.unusedVariables false
set_option linter.unusedSimpArgs false
open Go.RowKit Go.Extern.Stop Go.Stop Go.Extern

theorem chkAns_comm (ts ls : List Int) (c : Int) : chkAns ts ls c = chkAns ls ts c := by
  unfold chkAns
  by_cases h : ls.length = ts.length
  · rw [h]
    by_cases k : sdB ts.length = true
    · rw [if_pos (⟨k, rfl⟩ : _ ∧ _), if_pos (⟨k, rfl⟩ : _ ∧ _)]
      by_cases e : ts.any nosmpB = true ∨ ls.any nosmpB = true ∨ nosmpB c = true
      · rw [if_pos e, if_pos (by rcases e with e | e | e <;> simp [e])]
      · rw [if_neg e, if_neg (fun k => e (by rcases k with k | k | k <;> simp [k]))]
    · rw [if_neg (fun e => k e.1), if_neg (fun e => k e.1)]
  · rw [if_neg (fun e => h e.2), if_neg (fun e => h e.2.symm)]
def turnI (m : Int) : Int := if m = 1 ∨ m = 2 then 3 - m else m
theorem nbF_comm (t l : Nat → Int) (n : Nat) : nbF t l n = nbF l t n := by
  induction n with
  | zero => rfl
  | succ n ih => unfold nbF; omega
theorem meanOf_comm {ts ls : List Int} (h : ls.length = ts.length) : meanOf ts ls = meanOf ls ts := by
  unfold meanOf
  rw [h, nbF_comm]
theorem turn_at {m : Int} {ts ls : List Int} {c : Int} (hm : 0 ≤ m ∧ m ≤ 3) (hl : ls.length = ts.length) (hn : 0 < ts.length) {k : Nat} (hk : k < ts.length * ts.length) :
    prdF m ts ls c k = prdF (turnI m) ls ts c (k % ts.length * ts.length + k / ts.length) := by
  have hq : k / ts.length < ts.length := Nat.div_lt_of_lt_mul hk
  have e1 : (k % ts.length * ts.length + k / ts.length) % ts.length = k / ts.length := by
    rw [Nat.add_comm, Nat.add_mul_mod_self_right, Nat.mod_eq_of_lt hq]
  have e2 : (k % ts.length * ts.length + k / ts.length) / ts.length = k % ts.length := by
    rw [Nat.add_comm, Nat.add_mul_div_right _ _ hn, Nat.div_eq_of_lt hq, Nat.zero_add]
  unfold prdF turnI
  rw [hl, e1, e2, meanOf_comm hl]
  rcases (by omega : m = 0 ∨ m = 1 ∨ m = 2 ∨ m = 3) with rfl | rfl | rfl | rfl <;> simp
  congr 1
  omega
theorem prdV_none {m : Int} {ts ls : List Int} {c : Int} (hm : 0 ≤ m ∧ m ≤ 3) (h : chkAns ts ls c = none) : prdAns m ts ls c = none ∧ prdV m ts ls c = prdL m ts ls c := by
  have e : prdAns m ts ls c = none := by unfold prdAns; rw [if_neg (by omega), h]
  exact ⟨e, by unfold prdV; rw [e]⟩
theorem prdV_some {m : Int} {ts ls : List Int} {c : Int} {f : List (ByteArray × Int) × Int} (hm : 0 ≤ m ∧ m ≤ 3) (h : chkAns ts ls c = some f) : prdAns m ts ls c = some f ∧ prdV m ts ls c = [] := by
  have e : prdAns m ts ls c = some f := by unfold prdAns; rw [if_neg (by omega), h]
  exact ⟨e, by unfold prdV; rw [e]⟩
set_option maxHeartbeats 2000000 in
set_option maxRecDepth 20000 in
theorem turned_long (a b : Option Addr) (n m ca cb : Nat) (c : Int) (w : World) (hg : EtIs w) (hl : 5000 < n ∨ ¬ 5000 < n ∧ 5000 < m) :
    Calls Tryd.prog 9 #[.slice a n ca, .slice b m cb, .int .i64 c] w fun e w' => e = .returned (.bool true) ∧ Ext w w' := by
  rcases hl with h1 | ⟨h1, h2⟩
  all_goals
    go_enter Tryd.func9, Tryd.ntmps9
    go_wp2_with fail
    refine (first10_any _ hg).mono ?_; rintro e w1 ⟨rfl, hx1⟩
    go_wp2_with fail
    refine (first10_any _ (hg.ext (by repeat (first | exact Ext.refl _ | assumption | refine Ext.alloc ?_ _ | refine Ext.drew ?_ | refine Ext.drewN ?_ _ | refine Ext.setCell ?_ (by first | exact Nat.le_refl _ | (simp; done) | omega) _ | refine Ext.trans ?_ (by assumption))))).mono ?_; rintro e w2 ⟨rfl, hx2⟩
    go_wp2
    go_ret
    exact ⟨rfl, (by repeat (first | exact Ext.refl _ | assumption | refine Ext.alloc ?_ _ | refine Ext.drew ?_ | refine Ext.drewN ?_ _ | refine Ext.setCell ?_ (by first | exact Nat.le_refl _ | (simp; done) | omega) _ | refine Ext.trans ?_ (by assumption)))⟩
set_option maxHeartbeats 8000000 in
set_option maxRecDepth 20000 in
theorem turned_n (ts ls : List Int) (c : Int) (a b : Option Addr) (n m ca cb : Nat) (w : World) (hg : EtIs w) (ha : Ints w (.slice a n ca) ts) (hb : Ints w (.slice b m cb) ls) (h1 : ¬ 5000 < n) (h2 : ¬ 5000 < m) (f : List (ByteArray × Int) × Int)
    (P1 : Hid (∀ (k : Int) v u W, 0 ≤ k ∧ k ≤ 3 → Ints W v ts → Ints W u ls → Calls Tryd.prog 22 #[.int .i64 k, v, u, .int .i64 c] W (ZPost W [] (some f))))
    (P2 : Hid (∀ (k : Int) v u W, 0 ≤ k ∧ k ≤ 3 → Ints W v ls → Ints W u ts → Calls Tryd.prog 22 #[.int .i64 (turnI k), v, u, .int .i64 c] W (ZPost W [] (some f)))) :
    Calls Tryd.prog 9 #[.slice a n ca, .slice b m cb, .int .i64 c] w fun e w' => e = .returned (.bool true) ∧ Ext w w' := by
  go_enter Tryd.func9, Tryd.ntmps9
  go_wp2_with fail
  refine (first10_any _ hg).mono ?_; rintro e w1 ⟨rfl, hx1⟩
  go_wp2
  go_loopw [8] (fun iv wr => ∃ k : Nat, k ≤ 4 ∧ iv = .int .i64 k ∧ Ext w wr) (fun iv _ => 4 - (intOf iv).toNat)
  case atStart => exact ⟨0, Nat.zero_le _, rfl, hx1⟩
  case round =>
    clear hx1
    obtain ⟨k, hk, rfl, hE⟩ := hrel
    by_cases hlt : k < 4
    · obtain ⟨o, ho⟩ : ∃ o, turnI (k : Int) = o := ⟨_, rfl⟩
      have F1 := Lib.hid (fun v u W h1 h2 => P1.out (k : Int) v u W (by omega) h1 h2)
      have F2 := Lib.hid (fun v u W h1 h2 => P2.out (k : Int) v u W (by omega) h1 h2)
      rw [ho] at F2
      have HO := Lib.hid ho
      obtain ⟨kk, hkk⟩ : ∃ kk, kk = k + 1 := ⟨_, rfl⟩
      have HK := Lib.hid hkk
      clear hkk
      have t1 : decide ((k : Int) < 4) = true := decide_eq_true (by omega)
      by_cases hk1 : k = 1
      · have hv : o = 2 := by rw [← ho, hk1]; rfl
        subst hv
        subst hk1
        clear ho
        go_wp2_with fail
        refine (F1.out _ _ _ (ha.ext (by repeat (first | exact Ext.refl _ | assumption | refine Ext.alloc ?_ _ | refine Ext.drew ?_ | refine Ext.drewN ?_ _ | refine Ext.setCell ?_ (by first | exact Nat.le_refl _ | (simp; done) | omega) _ | refine Ext.trans ?_ (by assumption)))) (hb.ext (by repeat (first | exact Ext.refl _ | assumption | refine Ext.alloc ?_ _ | refine Ext.drew ?_ | refine Ext.drewN ?_ _ | refine Ext.setCell ?_ (by first | exact Nat.le_refl _ | (simp; done) | omega) _ | refine Ext.trans ?_ (by assumption))))).mono ?_; rintro e w2 ⟨u2, x2, rfl, hx2, hz2, he2⟩
        go_wp2_with fail
        refine (F2.out _ _ _ (hb.ext (by repeat (first | exact Ext.refl _ | assumption | refine Ext.alloc ?_ _ | refine Ext.drew ?_ | refine Ext.drewN ?_ _ | refine Ext.setCell ?_ (by first | exact Nat.le_refl _ | (simp; done) | omega) _ | refine Ext.trans ?_ (by assumption)))) (ha.ext (by repeat (first | exact Ext.refl _ | assumption | refine Ext.alloc ?_ _ | refine Ext.drew ?_ | refine Ext.drewN ?_ _ | refine Ext.setCell ?_ (by first | exact Nat.le_refl _ | (simp; done) | omega) _ | refine Ext.trans ?_ (by assumption))))).mono ?_; rintro e w3 ⟨u3, x3, rfl, hx3, hz3, he3⟩
        obtain ⟨t2, y2, rfl⟩ := he2.ne
        obtain ⟨t3, y3, rfl⟩ := he3.ne
        obtain ⟨a2, c2, rfl⟩ := hz2.form
        obtain ⟨a3, c3, rfl⟩ := hz3.form
        have E3 := hE.trans (hx2.trans hx3)
        go_wp2_with fail
        go_quiet (fail)
        go_wp2
        refine wp_loop_rounds 1 ?_
        rw [rounds_succ]
        go_wp2
        go_roundw
        case rel => exact ⟨kk, by have := HK.out; omega, by rw [HK.out]; first | rfl | go_num, E3.drewN _⟩
        case measure => first | (simp [intOf]; done) | (simp [intOf]; omega)
      · by_cases hk2 : k = 2
        · have hv : o = 1 := by rw [← ho, hk2]; rfl
          subst hv
          subst hk2
          clear ho
          go_wp2_with fail
          refine (F1.out _ _ _ (ha.ext (by repeat (first | exact Ext.refl _ | assumption | refine Ext.alloc ?_ _ | refine Ext.drew ?_ | refine Ext.drewN ?_ _ | refine Ext.setCell ?_ (by first | exact Nat.le_refl _ | (simp; done) | omega) _ | refine Ext.trans ?_ (by assumption)))) (hb.ext (by repeat (first | exact Ext.refl _ | assumption | refine Ext.alloc ?_ _ | refine Ext.drew ?_ | refine Ext.drewN ?_ _ | refine Ext.setCell ?_ (by first | exact Nat.le_refl _ | (simp; done) | omega) _ | refine Ext.trans ?_ (by assumption))))).mono ?_; rintro e w2 ⟨u2, x2, rfl, hx2, hz2, he2⟩
          go_wp2_with fail
          refine (F2.out _ _ _ (hb.ext (by repeat (first | exact Ext.refl _ | assumption | refine Ext.alloc ?_ _ | refine Ext.drew ?_ | refine Ext.drewN ?_ _ | refine Ext.setCell ?_ (by first | exact Nat.le_refl _ | (simp; done) | omega) _ | refine Ext.trans ?_ (by assumption)))) (ha.ext (by repeat (first | exact Ext.refl _ | assumption | refine Ext.alloc ?_ _ | refine Ext.drew ?_ | refine Ext.drewN ?_ _ | refine Ext.setCell ?_ (by first | exact Nat.le_refl _ | (simp; done) | omega) _ | refine Ext.trans ?_ (by assumption))))).mono ?_; rintro e w3 ⟨u3, x3, rfl, hx3, hz3, he3⟩
          obtain ⟨t2, y2, rfl⟩ := he2.ne
          obtain ⟨t3, y3, rfl⟩ := he3.ne
          obtain ⟨a2, c2, rfl⟩ := hz2.form
          obtain ⟨a3, c3, rfl⟩ := hz3.form
          have E3 := hE.trans (hx2.trans hx3)
          go_wp2_with fail
          go_quiet (fail)
          go_wp2
          refine wp_loop_rounds 1 ?_
          rw [rounds_succ]
          go_wp2
          go_roundw
          case rel => exact ⟨kk, by have := HK.out; omega, by rw [HK.out]; first | rfl | go_num, E3.drewN _⟩
          case measure => first | (simp [intOf]; done) | (simp [intOf]; omega)
        · have hv : o = (k : Int) := by rw [← ho]; unfold turnI; rw [if_neg (by omega)]
          subst hv
          have b1 : ((k : Int) == 1) = false := by simp; omega
          have b2 : ((k : Int) == 2) = false := by simp; omega
          clear ho hk1 hk2
          go_wp2_with fail
          refine (F1.out _ _ _ (ha.ext (by repeat (first | exact Ext.refl _ | assumption | refine Ext.alloc ?_ _ | refine Ext.drew ?_ | refine Ext.drewN ?_ _ | refine Ext.setCell ?_ (by first | exact Nat.le_refl _ | (simp; done) | omega) _ | refine Ext.trans ?_ (by assumption)))) (hb.ext (by repeat (first | exact Ext.refl _ | assumption | refine Ext.alloc ?_ _ | refine Ext.drew ?_ | refine Ext.drewN ?_ _ | refine Ext.setCell ?_ (by first | exact Nat.le_refl _ | (simp; done) | omega) _ | refine Ext.trans ?_ (by assumption))))).mono ?_; rintro e w2 ⟨u2, x2, rfl, hx2, hz2, he2⟩
          go_wp2_with fail
          refine (F2.out _ _ _ (hb.ext (by repeat (first | exact Ext.refl _ | assumption | refine Ext.alloc ?_ _ | refine Ext.drew ?_ | refine Ext.drewN ?_ _ | refine Ext.setCell ?_ (by first | exact Nat.le_refl _ | (simp; done) | omega) _ | refine Ext.trans ?_ (by assumption)))) (ha.ext (by repeat (first | exact Ext.refl _ | assumption | refine Ext.alloc ?_ _ | refine Ext.drew ?_ | refine Ext.drewN ?_ _ | refine Ext.setCell ?_ (by first | exact Nat.le_refl _ | (simp; done) | omega) _ | refine Ext.trans ?_ (by assumption))))).mono ?_; rintro e w3 ⟨u3, x3, rfl, hx3, hz3, he3⟩
          obtain ⟨t2, y2, rfl⟩ := he2.ne
          obtain ⟨t3, y3, rfl⟩ := he3.ne
          obtain ⟨a2, c2, rfl⟩ := hz2.form
          obtain ⟨a3, c3, rfl⟩ := hz3.form
          have E3 := hE.trans (hx2.trans hx3)
          go_wp2_with fail
          go_quiet (fail)
          go_wp2
          refine wp_loop_rounds 1 ?_
          rw [rounds_succ]
          go_wp2
          go_roundw
          case rel => exact ⟨kk, by have := HK.out; omega, by rw [HK.out]; first | rfl | go_num, E3.drewN _⟩
          case measure => first | (simp [intOf]; done) | (simp [intOf]; omega)
    · go_wp2_with fail
      refine (first10_any _ (hg.ext hE)).mono ?_; rintro e w2 ⟨rfl, hx2⟩
      go_wp2
      go_ret
      exact ⟨rfl, hE.trans hx2⟩
set_option maxHeartbeats 8000000 in
set_option maxRecDepth 20000 in
theorem turned_4 (ts ls : List Int) (c : Int) (a b : Option Addr) (n m ca cb : Nat) (w : World) (hg : EtIs w) (ha : Ints w (.slice a 4 ca) ts) (hb : Ints w (.slice b 4 cb) ls) (h1 : ¬ 5000 < n) (h2 : ¬ 5000 < m) (T V : Int → Nat → Int)
    (P1 : Hid (∀ (k : Int) v u W, 0 ≤ k ∧ k ≤ 3 → Ints W v ts → Ints W u ls → Calls Tryd.prog 22 #[.int .i64 k, v, u, .int .i64 c] W (ZPost W (rowL 16 (T k)) none)))
    (P2 : Hid (∀ (k : Int) v u W, 0 ≤ k ∧ k ≤ 3 → Ints W v ls → Ints W u ts → Calls Tryd.prog 22 #[.int .i64 (turnI k), v, u, .int .i64 c] W (ZPost W (rowL 16 (V (turnI k))) none)))
    (hTV : Hid (∀ (k : Int) (j : Nat), 0 ≤ k ∧ k ≤ 3 → j < 16 → T k j = V (turnI k) (j % 4 * 4 + j / 4))) :
    Calls Tryd.prog 9 #[.slice a 4 ca, .slice b 4 cb, .int .i64 c] w fun e w' => e = .returned (.bool true) ∧ Ext w w' := by
  go_enter Tryd.func9, Tryd.ntmps9
  go_wp2_with fail
  refine (first10_any _ hg).mono ?_; rintro e w1 ⟨rfl, hx1⟩
  go_wp2
  go_loopw [8] (fun iv wr => ∃ k : Nat, k ≤ 4 ∧ iv = .int .i64 k ∧ Ext w wr) (fun iv _ => 4 - (intOf iv).toNat)
  case atStart => exact ⟨0, Nat.zero_le _, rfl, hx1⟩
  case round =>
    clear hx1
    obtain ⟨k, hk, rfl, hE⟩ := hrel
    by_cases hlt : k < 4
    · obtain ⟨o, ho⟩ : ∃ o, turnI (k : Int) = o := ⟨_, rfl⟩
      have F1 := Lib.hid (fun v u W h1 h2 => P1.out (k : Int) v u W (by omega) h1 h2)
      have F2 := Lib.hid (fun v u W h1 h2 => P2.out (k : Int) v u W (by omega) h1 h2)
      have HTV := Lib.hid (fun j hj => hTV.out (k : Int) j (by omega) hj)
      rw [ho] at F2 HTV
      have HO := Lib.hid ho
      obtain ⟨kk, hkk⟩ : ∃ kk, kk = k + 1 := ⟨_, rfl⟩
      have HK := Lib.hid hkk
      clear hkk
      have t1 : decide ((k : Int) < 4) = true := decide_eq_true (by omega)
      by_cases hk1 : k = 1
      · have hv : o = 2 := by rw [← ho, hk1]; rfl
        subst hv
        subst hk1
        clear ho
        go_wp2_with fail
        refine (F1.out _ _ _ (ha.ext (by repeat (first | exact Ext.refl _ | assumption | refine Ext.alloc ?_ _ | refine Ext.drew ?_ | refine Ext.drewN ?_ _ | refine Ext.setCell ?_ (by first | exact Nat.le_refl _ | (simp; done) | omega) _ | refine Ext.trans ?_ (by assumption)))) (hb.ext (by repeat (first | exact Ext.refl _ | assumption | refine Ext.alloc ?_ _ | refine Ext.drew ?_ | refine Ext.drewN ?_ _ | refine Ext.setCell ?_ (by first | exact Nat.le_refl _ | (simp; done) | omega) _ | refine Ext.trans ?_ (by assumption))))).mono ?_; rintro e w2 ⟨u2, x2, rfl, hx2, hz2, he2⟩
        go_wp2_with fail
        refine (F2.out _ _ _ (hb.ext (by repeat (first | exact Ext.refl _ | assumption | refine Ext.alloc ?_ _ | refine Ext.drew ?_ | refine Ext.drewN ?_ _ | refine Ext.setCell ?_ (by first | exact Nat.le_refl _ | (simp; done) | omega) _ | refine Ext.trans ?_ (by assumption)))) (ha.ext (by repeat (first | exact Ext.refl _ | assumption | refine Ext.alloc ?_ _ | refine Ext.drew ?_ | refine Ext.drewN ?_ _ | refine Ext.setCell ?_ (by first | exact Nat.le_refl _ | (simp; done) | omega) _ | refine Ext.trans ?_ (by assumption))))).mono ?_; rintro e w3 ⟨u3, x3, rfl, hx3, hz3, he3⟩
        obtain rfl : x2 = .nilIface := he2
        obtain rfl : x3 = .nilIface := he3
        obtain ⟨g2, o2, c2, e2, -, -⟩ := hz2.addr (by rw [rowL_length]; decide)
        obtain ⟨g3, o3, c3, e3, -, -⟩ := hz3.addr (by rw [rowL_length]; decide)
        rw [rowL_length] at e2 e3
        subst e2
        subst e3
        have hz4 := hz2.ext hx3
        have E3 := hE.trans (hx2.trans hx3)
        go_wp2_with fail
        go_quiet (fail)
        go_wp2
        go_loopw [14] (fun iv wr => ∃ j : Nat, j ≤ 16 ∧ iv = .int .i64 j ∧ Ext w3 wr) (fun iv _ => 16 - (intOf iv).toNat)
        case atStart => exact ⟨0, Nat.zero_le _, rfl, (Ext.refl _).drewN _⟩
        case round =>
          obtain ⟨j, hj, rfl, hE4⟩ := hrel
          by_cases hjt : j < 16
          · obtain ⟨p, hp⟩ : ∃ p, p = j / 4 := ⟨_, rfl⟩
            obtain ⟨q, hq⟩ : ∃ q, q = j % 4 := ⟨_, rfl⟩
            have q1 : (j : Int) % 4 = (q : Int) := by omega
            have q2 : (j : Int) / 4 = (p : Int) := by omega
            have q3 : q < 4 ∧ p < 4 := by omega
            have d1 := hE4.cell (hz4.at (rowL_get hjt))
            have d2 := hE4.cell (hz3.at (rowL_get (j := q * 4 + p) (by omega)))
            rw [HTV.out j hjt, ← hp, ← hq] at d1
            revert d1 d2
            generalize V _ (q * 4 + p) = x
            intro d1 d2
            obtain ⟨i, hi⟩ : ∃ i, i = q * 4 + p := ⟨_, rfl⟩
            rw [← hi] at d2
            have q4 : (q : Int) * 4 + (p : Int) = (i : Int) := by omega
            have i1 : (0 : Int) ≤ (i : Int) := by omega
            have i2 : (i : Int) < 16 := by omega
            have j1 : (0 : Int) ≤ (j : Int) := by omega
            have j2 : (j : Int) < 16 := by omega
            have w1 : IntKind.i64.wrap ((q : Int) * 4) = (q : Int) * 4 := by rw [IntKind.wrap_i64]; omega
            have w2 : IntKind.i64.wrap ((q : Int) * 4 + p) = (i : Int) := by rw [IntKind.wrap_i64]; omega
            have w3' : Int.tmod (j : Int) 4 = (q : Int) := by rw [Int.tmod_eq_emod_of_nonneg (by omega)]; omega
            have w4 : Int.tdiv (j : Int) 4 = (p : Int) := by rw [Int.tdiv_eq_ediv_of_nonneg (by omega)]; omega
            clear hp hq hi q3
            go_wp2_with fail
            go_quiet (fail)
            go_wp2
            go_roundw
            case rel => exact ⟨j + 1, by omega, by go_num, hE4.drewN _⟩
            case measure => simp [intOf]; omega
          · go_wp2
            go_roundw
            case rel => exact ⟨kk, by have := HK.out; omega, by rw [HK.out]; first | rfl | go_num, E3.trans hE4⟩
            case measure => first | (simp [intOf]; done) | (simp [intOf]; omega)
      · by_cases hk2 : k = 2
        · have hv : o = 1 := by rw [← ho, hk2]; rfl
          subst hv
          subst hk2
          clear ho
          go_wp2_with fail
          refine (F1.out _ _ _ (ha.ext (by repeat (first | exact Ext.refl _ | assumption | refine Ext.alloc ?_ _ | refine Ext.drew ?_ | refine Ext.drewN ?_ _ | refine Ext.setCell ?_ (by first | exact Nat.le_refl _ | (simp; done) | omega) _ | refine Ext.trans ?_ (by assumption)))) (hb.ext (by repeat (first | exact Ext.refl _ | assumption | refine Ext.alloc ?_ _ | refine Ext.drew ?_ | refine Ext.drewN ?_ _ | refine Ext.setCell ?_ (by first | exact Nat.le_refl _ | (simp; done) | omega) _ | refine Ext.trans ?_ (by assumption))))).mono ?_; rintro e w2 ⟨u2, x2, rfl, hx2, hz2, he2⟩
          go_wp2_with fail
          refine (F2.out _ _ _ (hb.ext (by repeat (first | exact Ext.refl _ | assumption | refine Ext.alloc ?_ _ | refine Ext.drew ?_ | refine Ext.drewN ?_ _ | refine Ext.setCell ?_ (by first | exact Nat.le_refl _ | (simp; done) | omega) _ | refine Ext.trans ?_ (by assumption)))) (ha.ext (by repeat (first | exact Ext.refl _ | assumption | refine Ext.alloc ?_ _ | refine Ext.drew ?_ | refine Ext.drewN ?_ _ | refine Ext.setCell ?_ (by first | exact Nat.le_refl _ | (simp; done) | omega) _ | refine Ext.trans ?_ (by assumption))))).mono ?_; rintro e w3 ⟨u3, x3, rfl, hx3, hz3, he3⟩
          obtain rfl : x2 = .nilIface := he2
          obtain rfl : x3 = .nilIface := he3
          obtain ⟨g2, o2, c2, e2, -, -⟩ := hz2.addr (by rw [rowL_length]; decide)
          obtain ⟨g3, o3, c3, e3, -, -⟩ := hz3.addr (by rw [rowL_length]; decide)
          rw [rowL_length] at e2 e3
          subst e2
          subst e3
          have hz4 := hz2.ext hx3
          have E3 := hE.trans (hx2.trans hx3)
          go_wp2_with fail
          go_quiet (fail)
          go_wp2
          go_loopw [14] (fun iv wr => ∃ j : Nat, j ≤ 16 ∧ iv = .int .i64 j ∧ Ext w3 wr) (fun iv _ => 16 - (intOf iv).toNat)
          case atStart => exact ⟨0, Nat.zero_le _, rfl, (Ext.refl _).drewN _⟩
          case round =>
            obtain ⟨j, hj, rfl, hE4⟩ := hrel
            by_cases hjt : j < 16
            · obtain ⟨p, hp⟩ : ∃ p, p = j / 4 := ⟨_, rfl⟩
              obtain ⟨q, hq⟩ : ∃ q, q = j % 4 := ⟨_, rfl⟩
              have q1 : (j : Int) % 4 = (q : Int) := by omega
              have q2 : (j : Int) / 4 = (p : Int) := by omega
              have q3 : q < 4 ∧ p < 4 := by omega
              have d1 := hE4.cell (hz4.at (rowL_get hjt))
              have d2 := hE4.cell (hz3.at (rowL_get (j := q * 4 + p) (by omega)))
              rw [HTV.out j hjt, ← hp, ← hq] at d1
              revert d1 d2
              generalize V _ (q * 4 + p) = x
              intro d1 d2
              obtain ⟨i, hi⟩ : ∃ i, i = q * 4 + p := ⟨_, rfl⟩
              rw [← hi] at d2
              have q4 : (q : Int) * 4 + (p : Int) = (i : Int) := by omega
              have i1 : (0 : Int) ≤ (i : Int) := by omega
              have i2 : (i : Int) < 16 := by omega
              have j1 : (0 : Int) ≤ (j : Int) := by omega
              have j2 : (j : Int) < 16 := by omega
              have w1 : IntKind.i64.wrap ((q : Int) * 4) = (q : Int) * 4 := by rw [IntKind.wrap_i64]; omega
              have w2 : IntKind.i64.wrap ((q : Int) * 4 + p) = (i : Int) := by rw [IntKind.wrap_i64]; omega
              have w3' : Int.tmod (j : Int) 4 = (q : Int) := by rw [Int.tmod_eq_emod_of_nonneg (by omega)]; omega
              have w4 : Int.tdiv (j : Int) 4 = (p : Int) := by rw [Int.tdiv_eq_ediv_of_nonneg (by omega)]; omega
              clear hp hq hi q3
              go_wp2_with fail
              go_quiet (fail)
              go_wp2
              go_roundw
              case rel => exact ⟨j + 1, by omega, by go_num, hE4.drewN _⟩
              case measure => simp [intOf]; omega
            · go_wp2
              go_roundw
              case rel => exact ⟨kk, by have := HK.out; omega, by rw [HK.out]; first | rfl | go_num, E3.trans hE4⟩
              case measure => first | (simp [intOf]; done) | (simp [intOf]; omega)
        · have hv : o = (k : Int) := by rw [← ho]; unfold turnI; rw [if_neg (by omega)]
          subst hv
          have b1 : ((k : Int) == 1) = false := by simp; omega
          have b2 : ((k : Int) == 2) = false := by simp; omega
          clear ho hk1 hk2
          go_wp2_with fail
          refine (F1.out _ _ _ (ha.ext (by repeat (first | exact Ext.refl _ | assumption | refine Ext.alloc ?_ _ | refine Ext.drew ?_ | refine Ext.drewN ?_ _ | refine Ext.setCell ?_ (by first | exact Nat.le_refl _ | (simp; done) | omega) _ | refine Ext.trans ?_ (by assumption)))) (hb.ext (by repeat (first | exact Ext.refl _ | assumption | refine Ext.alloc ?_ _ | refine Ext.drew ?_ | refine Ext.drewN ?_ _ | refine Ext.setCell ?_ (by first | exact Nat.le_refl _ | (simp; done) | omega) _ | refine Ext.trans ?_ (by assumption))))).mono ?_; rintro e w2 ⟨u2, x2, rfl, hx2, hz2, he2⟩
          go_wp2_with fail
          refine (F2.out _ _ _ (hb.ext (by repeat (first | exact Ext.refl _ | assumption | refine Ext.alloc ?_ _ | refine Ext.drew ?_ | refine Ext.drewN ?_ _ | refine Ext.setCell ?_ (by first | exact Nat.le_refl _ | (simp; done) | omega) _ | refine Ext.trans ?_ (by assumption)))) (ha.ext (by repeat (first | exact Ext.refl _ | assumption | refine Ext.alloc ?_ _ | refine Ext.drew ?_ | refine Ext.drewN ?_ _ | refine Ext.setCell ?_ (by first | exact Nat.le_refl _ | (simp; done) | omega) _ | refine Ext.trans ?_ (by assumption))))).mono ?_; rintro e w3 ⟨u3, x3, rfl, hx3, hz3, he3⟩
          obtain rfl : x2 = .nilIface := he2
          obtain rfl : x3 = .nilIface := he3
          obtain ⟨g2, o2, c2, e2, -, -⟩ := hz2.addr (by rw [rowL_length]; decide)
          obtain ⟨g3, o3, c3, e3, -, -⟩ := hz3.addr (by rw [rowL_length]; decide)
          rw [rowL_length] at e2 e3
          subst e2
          subst e3
          have hz4 := hz2.ext hx3
          have E3 := hE.trans (hx2.trans hx3)
          go_wp2_with fail
          go_quiet (fail)
          go_wp2
          go_loopw [14] (fun iv wr => ∃ j : Nat, j ≤ 16 ∧ iv = .int .i64 j ∧ Ext w3 wr) (fun iv _ => 16 - (intOf iv).toNat)
          case atStart => exact ⟨0, Nat.zero_le _, rfl, (Ext.refl _).drewN _⟩
          case round =>
            obtain ⟨j, hj, rfl, hE4⟩ := hrel
            by_cases hjt : j < 16
            · obtain ⟨p, hp⟩ : ∃ p, p = j / 4 := ⟨_, rfl⟩
              obtain ⟨q, hq⟩ : ∃ q, q = j % 4 := ⟨_, rfl⟩
              have q1 : (j : Int) % 4 = (q : Int) := by omega
              have q2 : (j : Int) / 4 = (p : Int) := by omega
              have q3 : q < 4 ∧ p < 4 := by omega
              have d1 := hE4.cell (hz4.at (rowL_get hjt))
              have d2 := hE4.cell (hz3.at (rowL_get (j := q * 4 + p) (by omega)))
              rw [HTV.out j hjt, ← hp, ← hq] at d1
              revert d1 d2
              generalize V _ (q * 4 + p) = x
              intro d1 d2
              obtain ⟨i, hi⟩ : ∃ i, i = q * 4 + p := ⟨_, rfl⟩
              rw [← hi] at d2
              have q4 : (q : Int) * 4 + (p : Int) = (i : Int) := by omega
              have i1 : (0 : Int) ≤ (i : Int) := by omega
              have i2 : (i : Int) < 16 := by omega
              have j1 : (0 : Int) ≤ (j : Int) := by omega
              have j2 : (j : Int) < 16 := by omega
              have w1 : IntKind.i64.wrap ((q : Int) * 4) = (q : Int) * 4 := by rw [IntKind.wrap_i64]; omega
              have w2 : IntKind.i64.wrap ((q : Int) * 4 + p) = (i : Int) := by rw [IntKind.wrap_i64]; omega
              have w3' : Int.tmod (j : Int) 4 = (q : Int) := by rw [Int.tmod_eq_emod_of_nonneg (by omega)]; omega
              have w4 : Int.tdiv (j : Int) 4 = (p : Int) := by rw [Int.tdiv_eq_ediv_of_nonneg (by omega)]; omega
              clear hp hq hi q3
              go_wp2_with fail
              go_quiet (fail)
              go_wp2
              go_roundw
              case rel => exact ⟨j + 1, by omega, by go_num, hE4.drewN _⟩
              case measure => simp [intOf]; omega
            · go_wp2
              go_roundw
              case rel => exact ⟨kk, by have := HK.out; omega, by rw [HK.out]; first | rfl | go_num, E3.trans hE4⟩
              case measure => first | (simp [intOf]; done) | (simp [intOf]; omega)
    · go_wp2_with fail
      refine (first10_any _ (hg.ext hE)).mono ?_; rintro e w2 ⟨rfl, hx2⟩
      go_wp2
      go_ret
      exact ⟨rfl, hE.trans hx2⟩
set_option maxHeartbeats 8000000 in
set_option maxRecDepth 20000 in
theorem turned_8 (ts ls : List Int) (c : Int) (a b : Option Addr) (n m ca cb : Nat) (w : World) (hg : EtIs w) (ha : Ints w (.slice a 8 ca) ts) (hb : Ints w (.slice b 8 cb) ls) (h1 : ¬ 5000 < n) (h2 : ¬ 5000 < m) (T V : Int → Nat → Int)
    (P1 : Hid (∀ (k : Int) v u W, 0 ≤ k ∧ k ≤ 3 → Ints W v ts → Ints W u ls → Calls Tryd.prog 22 #[.int .i64 k, v, u, .int .i64 c] W (ZPost W (rowL 64 (T k)) none)))
    (P2 : Hid (∀ (k : Int) v u W, 0 ≤ k ∧ k ≤ 3 → Ints W v ls → Ints W u ts → Calls Tryd.prog 22 #[.int .i64 (turnI k), v, u, .int .i64 c] W (ZPost W (rowL 64 (V (turnI k))) none)))
    (hTV : Hid (∀ (k : Int) (j : Nat), 0 ≤ k ∧ k ≤ 3 → j < 64 → T k j = V (turnI k) (j % 8 * 8 + j / 8))) :
    Calls Tryd.prog 9 #[.slice a 8 ca, .slice b 8 cb, .int .i64 c] w fun e w' => e = .returned (.bool true) ∧ Ext w w' := by
  go_enter Tryd.func9, Tryd.ntmps9
  go_wp2_with fail
  refine (first10_any _ hg).mono ?_; rintro e w1 ⟨rfl, hx1⟩
  go_wp2
  go_loopw [8] (fun iv wr => ∃ k : Nat, k ≤ 4 ∧ iv = .int .i64 k ∧ Ext w wr) (fun iv _ => 4 - (intOf iv).toNat)
  case atStart => exact ⟨0, Nat.zero_le _, rfl, hx1⟩
  case round =>
    clear hx1
    obtain ⟨k, hk, rfl, hE⟩ := hrel
    by_cases hlt : k < 4
    · obtain ⟨o, ho⟩ : ∃ o, turnI (k : Int) = o := ⟨_, rfl⟩
      have F1 := Lib.hid (fun v u W h1 h2 => P1.out (k : Int) v u W (by omega) h1 h2)
      have F2 := Lib.hid (fun v u W h1 h2 => P2.out (k : Int) v u W (by omega) h1 h2)
      have HTV := Lib.hid (fun j hj => hTV.out (k : Int) j (by omega) hj)
      rw [ho] at F2 HTV
      have HO := Lib.hid ho
      obtain ⟨kk, hkk⟩ : ∃ kk, kk = k + 1 := ⟨_, rfl⟩
      have HK := Lib.hid hkk
      clear hkk
      have t1 : decide ((k : Int) < 4) = true := decide_eq_true (by omega)
      by_cases hk1 : k = 1
      · have hv : o = 2 := by rw [← ho, hk1]; rfl
        subst hv
        subst hk1
        clear ho
        go_wp2_with fail
        refine (F1.out _ _ _ (ha.ext (by repeat (first | exact Ext.refl _ | assumption | refine Ext.alloc ?_ _ | refine Ext.drew ?_ | refine Ext.drewN ?_ _ | refine Ext.setCell ?_ (by first | exact Nat.le_refl _ | (simp; done) | omega) _ | refine Ext.trans ?_ (by assumption)))) (hb.ext (by repeat (first | exact Ext.refl _ | assumption | refine Ext.alloc ?_ _ | refine Ext.drew ?_ | refine Ext.drewN ?_ _ | refine Ext.setCell ?_ (by first | exact Nat.le_refl _ | (simp; done) | omega) _ | refine Ext.trans ?_ (by assumption))))).mono ?_; rintro e w2 ⟨u2, x2, rfl, hx2, hz2, he2⟩
        go_wp2_with fail
        refine (F2.out _ _ _ (hb.ext (by repeat (first | exact Ext.refl _ | assumption | refine Ext.alloc ?_ _ | refine Ext.drew ?_ | refine Ext.drewN ?_ _ | refine Ext.setCell ?_ (by first | exact Nat.le_refl _ | (simp; done) | omega) _ | refine Ext.trans ?_ (by assumption)))) (ha.ext (by repeat (first | exact Ext.refl _ | assumption | refine Ext.alloc ?_ _ | refine Ext.drew ?_ | refine Ext.drewN ?_ _ | refine Ext.setCell ?_ (by first | exact Nat.le_refl _ | (simp; done) | omega) _ | refine Ext.trans ?_ (by assumption))))).mono ?_; rintro e w3 ⟨u3, x3, rfl, hx3, hz3, he3⟩
        obtain rfl : x2 = .nilIface := he2
        obtain rfl : x3 = .nilIface := he3
        obtain ⟨g2, o2, c2, e2, -, -⟩ := hz2.addr (by rw [rowL_length]; decide)
        obtain ⟨g3, o3, c3, e3, -, -⟩ := hz3.addr (by rw [rowL_length]; decide)
        rw [rowL_length] at e2 e3
        subst e2
        subst e3
        have hz4 := hz2.ext hx3
        have E3 := hE.trans (hx2.trans hx3)
        go_wp2_with fail
        go_quiet (fail)
        go_wp2
        go_loopw [14] (fun iv wr => ∃ j : Nat, j ≤ 64 ∧ iv = .int .i64 j ∧ Ext w3 wr) (fun iv _ => 64 - (intOf iv).toNat)
        case atStart => exact ⟨0, Nat.zero_le _, rfl, (Ext.refl _).drewN _⟩
        case round =>
          obtain ⟨j, hj, rfl, hE4⟩ := hrel
          by_cases hjt : j < 64
          · obtain ⟨p, hp⟩ : ∃ p, p = j / 8 := ⟨_, rfl⟩
            obtain ⟨q, hq⟩ : ∃ q, q = j % 8 := ⟨_, rfl⟩
            have q1 : (j : Int) % 8 = (q : Int) := by omega
            have q2 : (j : Int) / 8 = (p : Int) := by omega
            have q3 : q < 8 ∧ p < 8 := by omega
            have d1 := hE4.cell (hz4.at (rowL_get hjt))
            have d2 := hE4.cell (hz3.at (rowL_get (j := q * 8 + p) (by omega)))
            rw [HTV.out j hjt, ← hp, ← hq] at d1
            revert d1 d2
            generalize V _ (q * 8 + p) = x
            intro d1 d2
            obtain ⟨i, hi⟩ : ∃ i, i = q * 8 + p := ⟨_, rfl⟩
            rw [← hi] at d2
            have q4 : (q : Int) * 8 + (p : Int) = (i : Int) := by omega
            have i1 : (0 : Int) ≤ (i : Int) := by omega
            have i2 : (i : Int) < 64 := by omega
            have j1 : (0 : Int) ≤ (j : Int) := by omega
            have j2 : (j : Int) < 64 := by omega
            have w1 : IntKind.i64.wrap ((q : Int) * 8) = (q : Int) * 8 := by rw [IntKind.wrap_i64]; omega
            have w2 : IntKind.i64.wrap ((q : Int) * 8 + p) = (i : Int) := by rw [IntKind.wrap_i64]; omega
            have w3' : Int.tmod (j : Int) 8 = (q : Int) := by rw [Int.tmod_eq_emod_of_nonneg (by omega)]; omega
            have w4 : Int.tdiv (j : Int) 8 = (p : Int) := by rw [Int.tdiv_eq_ediv_of_nonneg (by omega)]; omega
            clear hp hq hi q3
            go_wp2_with fail
            go_quiet (fail)
            go_wp2
            go_roundw
            case rel => exact ⟨j + 1, by omega, by go_num, hE4.drewN _⟩
            case measure => simp [intOf]; omega
          · go_wp2
            go_roundw
            case rel => exact ⟨kk, by have := HK.out; omega, by rw [HK.out]; first | rfl | go_num, E3.trans hE4⟩
            case measure => first | (simp [intOf]; done) | (simp [intOf]; omega)
      · by_cases hk2 : k = 2
        · have hv : o = 1 := by rw [← ho, hk2]; rfl
          subst hv
          subst hk2
          clear ho
          go_wp2_with fail
          refine (F1.out _ _ _ (ha.ext (by repeat (first | exact Ext.refl _ | assumption | refine Ext.alloc ?_ _ | refine Ext.drew ?_ | refine Ext.drewN ?_ _ | refine Ext.setCell ?_ (by first | exact Nat.le_refl _ | (simp; done) | omega) _ | refine Ext.trans ?_ (by assumption)))) (hb.ext (by repeat (first | exact Ext.refl _ | assumption | refine Ext.alloc ?_ _ | refine Ext.drew ?_ | refine Ext.drewN ?_ _ | refine Ext.setCell ?_ (by first | exact Nat.le_refl _ | (simp; done) | omega) _ | refine Ext.trans ?_ (by assumption))))).mono ?_; rintro e w2 ⟨u2, x2, rfl, hx2, hz2, he2⟩
          go_wp2_with fail
          refine (F2.out _ _ _ (hb.ext (by repeat (first | exact Ext.refl _ | assumption | refine Ext.alloc ?_ _ | refine Ext.drew ?_ | refine Ext.drewN ?_ _ | refine Ext.setCell ?_ (by first | exact Nat.le_refl _ | (simp; done) | omega) _ | refine Ext.trans ?_ (by assumption)))) (ha.ext (by repeat (first | exact Ext.refl _ | assumption | refine Ext.alloc ?_ _ | refine Ext.drew ?_ | refine Ext.drewN ?_ _ | refine Ext.setCell ?_ (by first | exact Nat.le_refl _ | (simp; done) | omega) _ | refine Ext.trans ?_ (by assumption))))).mono ?_; rintro e w3 ⟨u3, x3, rfl, hx3, hz3, he3⟩
          obtain rfl : x2 = .nilIface := he2
          obtain rfl : x3 = .nilIface := he3
          obtain ⟨g2, o2, c2, e2, -, -⟩ := hz2.addr (by rw [rowL_length]; decide)
          obtain ⟨g3, o3, c3, e3, -, -⟩ := hz3.addr (by rw [rowL_length]; decide)
          rw [rowL_length] at e2 e3
          subst e2
          subst e3
          have hz4 := hz2.ext hx3
          have E3 := hE.trans (hx2.trans hx3)
          go_wp2_with fail
          go_quiet (fail)
          go_wp2
          go_loopw [14] (fun iv wr => ∃ j : Nat, j ≤ 64 ∧ iv = .int .i64 j ∧ Ext w3 wr) (fun iv _ => 64 - (intOf iv).toNat)
          case atStart => exact ⟨0, Nat.zero_le _, rfl, (Ext.refl _).drewN _⟩
          case round =>
            obtain ⟨j, hj, rfl, hE4⟩ := hrel
            by_cases hjt : j < 64
            · obtain ⟨p, hp⟩ : ∃ p, p = j / 8 := ⟨_, rfl⟩
              obtain ⟨q, hq⟩ : ∃ q, q = j % 8 := ⟨_, rfl⟩
              have q1 : (j : Int) % 8 = (q : Int) := by omega
              have q2 : (j : Int) / 8 = (p : Int) := by omega
              have q3 : q < 8 ∧ p < 8 := by omega
              have d1 := hE4.cell (hz4.at (rowL_get hjt))
              have d2 := hE4.cell (hz3.at (rowL_get (j := q * 8 + p) (by omega)))
              rw [HTV.out j hjt, ← hp, ← hq] at d1
              revert d1 d2
              generalize V _ (q * 8 + p) = x
              intro d1 d2
              obtain ⟨i, hi⟩ : ∃ i, i = q * 8 + p := ⟨_, rfl⟩
              rw [← hi] at d2
              have q4 : (q : Int) * 8 + (p : Int) = (i : Int) := by omega
              have i1 : (0 : Int) ≤ (i : Int) := by omega
              have i2 : (i : Int) < 64 := by omega
              have j1 : (0 : Int) ≤ (j : Int) := by omega
              have j2 : (j : Int) < 64 := by omega
              have w1 : IntKind.i64.wrap ((q : Int) * 8) = (q : Int) * 8 := by rw [IntKind.wrap_i64]; omega
              have w2 : IntKind.i64.wrap ((q : Int) * 8 + p) = (i : Int) := by rw [IntKind.wrap_i64]; omega
              have w3' : Int.tmod (j : Int) 8 = (q : Int) := by rw [Int.tmod_eq_emod_of_nonneg (by omega)]; omega
              have w4 : Int.tdiv (j : Int) 8 = (p : Int) := by rw [Int.tdiv_eq_ediv_of_nonneg (by omega)]; omega
              clear hp hq hi q3
              go_wp2_with fail
              go_quiet (fail)
              go_wp2
              go_roundw
              case rel => exact ⟨j + 1, by omega, by go_num, hE4.drewN _⟩
              case measure => simp [intOf]; omega
            · go_wp2
              go_roundw
              case rel => exact ⟨kk, by have := HK.out; omega, by rw [HK.out]; first | rfl | go_num, E3.trans hE4⟩
              case measure => first | (simp [intOf]; done) | (simp [intOf]; omega)
        · have hv : o = (k : Int) := by rw [← ho]; unfold turnI; rw [if_neg (by omega)]
          subst hv
          have b1 : ((k : Int) == 1) = false := by simp; omega
          have b2 : ((k : Int) == 2) = false := by simp; omega
          clear ho hk1 hk2
          go_wp2_with fail
          refine (F1.out _ _ _ (ha.ext (by repeat (first | exact Ext.refl _ | assumption | refine Ext.alloc ?_ _ | refine Ext.drew ?_ | refine Ext.drewN ?_ _ | refine Ext.setCell ?_ (by first | exact Nat.le_refl _ | (simp; done) | omega) _ | refine Ext.trans ?_ (by assumption)))) (hb.ext (by repeat (first | exact Ext.refl _ | assumption | refine Ext.alloc ?_ _ | refine Ext.drew ?_ | refine Ext.drewN ?_ _ | refine Ext.setCell ?_ (by first | exact Nat.le_refl _ | (simp; done) | omega) _ | refine Ext.trans ?_ (by assumption))))).mono ?_; rintro e w2 ⟨u2, x2, rfl, hx2, hz2, he2⟩
          go_wp2_with fail
          refine (F2.out _ _ _ (hb.ext (by repeat (first | exact Ext.refl _ | assumption | refine Ext.alloc ?_ _ | refine Ext.drew ?_ | refine Ext.drewN ?_ _ | refine Ext.setCell ?_ (by first | exact Nat.le_refl _ | (simp; done) | omega) _ | refine Ext.trans ?_ (by assumption)))) (ha.ext (by repeat (first | exact Ext.refl _ | assumption | refine Ext.alloc ?_ _ | refine Ext.drew ?_ | refine Ext.drewN ?_ _ | refine Ext.setCell ?_ (by first | exact Nat.le_refl _ | (simp; done) | omega) _ | refine Ext.trans ?_ (by assumption))))).mono ?_; rintro e w3 ⟨u3, x3, rfl, hx3, hz3, he3⟩
          obtain rfl : x2 = .nilIface := he2
          obtain rfl : x3 = .nilIface := he3
          obtain ⟨g2, o2, c2, e2, -, -⟩ := hz2.addr (by rw [rowL_length]; decide)
          obtain ⟨g3, o3, c3, e3, -, -⟩ := hz3.addr (by rw [rowL_length]; decide)
          rw [rowL_length] at e2 e3
          subst e2
          subst e3
          have hz4 := hz2.ext hx3
          have E3 := hE.trans (hx2.trans hx3)
          go_wp2_with fail
          go_quiet (fail)
          go_wp2
          go_loopw [14] (fun iv wr => ∃ j : Nat, j ≤ 64 ∧ iv = .int .i64 j ∧ Ext w3 wr) (fun iv _ => 64 - (intOf iv).toNat)
          case atStart => exact ⟨0, Nat.zero_le _, rfl, (Ext.refl _).drewN _⟩
          case round =>
            obtain ⟨j, hj, rfl, hE4⟩ := hrel
            by_cases hjt : j < 64
            · obtain ⟨p, hp⟩ : ∃ p, p = j / 8 := ⟨_, rfl⟩
              obtain ⟨q, hq⟩ : ∃ q, q = j % 8 := ⟨_, rfl⟩
              have q1 : (j : Int) % 8 = (q : Int) := by omega
              have q2 : (j : Int) / 8 = (p : Int) := by omega
              have q3 : q < 8 ∧ p < 8 := by omega
              have d1 := hE4.cell (hz4.at (rowL_get hjt))
              have d2 := hE4.cell (hz3.at (rowL_get (j := q * 8 + p) (by omega)))
              rw [HTV.out j hjt, ← hp, ← hq] at d1
              revert d1 d2
              generalize V _ (q * 8 + p) = x
              intro d1 d2
              obtain ⟨i, hi⟩ : ∃ i, i = q * 8 + p := ⟨_, rfl⟩
              rw [← hi] at d2
              have q4 : (q : Int) * 8 + (p : Int) = (i : Int) := by omega
              have i1 : (0 : Int) ≤ (i : Int) := by omega
              have i2 : (i : Int) < 64 := by omega
              have j1 : (0 : Int) ≤ (j : Int) := by omega
              have j2 : (j : Int) < 64 := by omega
              have w1 : IntKind.i64.wrap ((q : Int) * 8) = (q : Int) * 8 := by rw [IntKind.wrap_i64]; omega
              have w2 : IntKind.i64.wrap ((q : Int) * 8 + p) = (i : Int) := by rw [IntKind.wrap_i64]; omega
              have w3' : Int.tmod (j : Int) 8 = (q : Int) := by rw [Int.tmod_eq_emod_of_nonneg (by omega)]; omega
              have w4 : Int.tdiv (j : Int) 8 = (p : Int) := by rw [Int.tdiv_eq_ediv_of_nonneg (by omega)]; omega
              clear hp hq hi q3
              go_wp2_with fail
              go_quiet (fail)
              go_wp2
              go_roundw
              case rel => exact ⟨j + 1, by omega, by go_num, hE4.drewN _⟩
              case measure => simp [intOf]; omega
            · go_wp2
              go_roundw
              case rel => exact ⟨kk, by have := HK.out; omega, by rw [HK.out]; first | rfl | go_num, E3.trans hE4⟩
              case measure => first | (simp [intOf]; done) | (simp [intOf]; omega)
    · go_wp2_with fail
      refine (first10_any _ (hg.ext hE)).mono ?_; rintro e w2 ⟨rfl, hx2⟩
      go_wp2
      go_ret
      exact ⟨rfl, hE.trans hx2⟩
theorem turned_law (ts ls : List Int) (c : Int) (va vb : Value) (w : World) (hg : EtIs w) (hr : Row w va ts.length (ts.map (Value.int .i64))) (hs : Row w vb ls.length (ls.map (Value.int .i64))) :
    Calls Tryd.prog 9 #[va, vb, .int .i64 c] w fun e w' => e = .returned (.bool true) ∧ Ext w w' := by
  by_cases hl : 5000 < ts.length ∨ ¬ 5000 < ts.length ∧ 5000 < ls.length
  · obtain ⟨a, ca, rfl⟩ := hr.form
    obtain ⟨b, cb, rfl⟩ := hs.form
    exact turned_long a b _ _ ca cb c w hg hl
  · have h1 : ¬ 5000 < ts.length := by omega
    have h2 : ¬ 5000 < ls.length := by omega
    have ha : Ints w va ts := ⟨hr, by omega⟩
    have hb : Ints w vb ls := ⟨hs, by omega⟩
    obtain ⟨a, ca, rfl⟩ := ha.form
    obtain ⟨b, cb, rfl⟩ := hb.form
    have ht : ∀ k : Int, 0 ≤ k ∧ k ≤ 3 → 0 ≤ turnI k ∧ turnI k ≤ 3 := fun k hk => by unfold turnI; split <;> omega
    cases hm : chkAns ts ls c with
    | some f =>
      refine turned_n ts ls c a b _ _ ca cb w hg ha hb h1 h2 f (fun k v u W hk h1 h2 => ?_) (fun k v u W hk h1 h2 => ?_)
      · have := Predict_any k ts ls c v u W h1 h2
        rwa [(prdV_some hk hm).1, (prdV_some hk hm).2] at this
      · have := Predict_any (turnI k) ls ts c v u W h1 h2
        rw [chkAns_comm] at hm
        rwa [(prdV_some (ht k hk) hm).1, (prdV_some (ht k hk) hm).2] at this
    | none =>
      obtain ⟨hn, hll, -, -, -⟩ := chkAns_none hm
      have hm' := hm
      rw [chkAns_comm] at hm'
      have p1 : ∀ (k : Int) v u W, 0 ≤ k ∧ k ≤ 3 → Ints W v ts → Ints W u ls → Calls Tryd.prog 22 #[.int .i64 k, v, u, .int .i64 c] W (ZPost W (rowL (ts.length * ts.length) (prdF k ts ls c)) none) := fun k v u W hk h1 h2 => by
        have := Predict_any k ts ls c v u W h1 h2
        rwa [(prdV_none hk hm).1, (prdV_none hk hm).2] at this
      have p2 : ∀ (k : Int) v u W, 0 ≤ k ∧ k ≤ 3 → Ints W v ls → Ints W u ts → Calls Tryd.prog 22 #[.int .i64 (turnI k), v, u, .int .i64 c] W (ZPost W (rowL (ts.length * ts.length) (prdF (turnI k) ls ts c)) none) := fun k v u W hk h1 h2 => by
        have := Predict_any (turnI k) ls ts c v u W h1 h2
        rw [(prdV_none (ht k hk) hm').1, (prdV_none (ht k hk) hm').2] at this
        unfold prdL at this
        rwa [hll] at this
      have p3 : ∀ (k : Int) (j : Nat), 0 ≤ k ∧ k ≤ 3 → j < ts.length * ts.length → prdF k ts ls c j = prdF (turnI k) ls ts c (j % ts.length * ts.length + j / ts.length) := fun k j hk hj => turn_at hk hll (by omega) hj
      rw [hll] at hb ⊢
      rcases hn with hn | hn
      · rw [hn] at ha hb p1 p2 p3 ⊢
        exact turned_4 ts ls c a b 4 4 ca cb w hg ha hb (by decide) (by decide) (fun k => prdF k ts ls c) (fun k => prdF k ls ts c) p1 p2 p3
      · rw [hn] at ha hb p1 p2 p3 ⊢
        exact turned_8 ts ls c a b 8 8 ca cb w hg ha hb (by decide) (by decide) (fun k => prdF k ts ls c) (fun k => prdF k ls ts c) p1 p2 p3
end Go.Proofs.YtbhlbiandelimaaDoor
