/- unit.Split: its contract over this seat's translation. -/
import Derived.Test.YtkjllhphpkmaiaaDoorUsp
namespace Go.Proofs.YtkjllhphpkmaiaaDoor
set_option linter.unusedVariables false
set_option linter.unusedSimpArgs false
open Go.RowKit Go.Extern.Stop Go.Stop Go.Extern

def SpPost (w : World) (R : Fall × List Un) (e : Ending) (w' : World) : Prop := ∃ v x S, e = .returned (.tuple #[v, x]) ∧ w'.ownsRow w.heap.size 44 4 v R.2.length (ucs R.2 S R.2.length) ∧ UnOwn w' w.heap.size R.2 S R.2.length v ∧ ErrIs w' R.1 x ∧ Ext w w'
theorem drop_nil {α : Type} {L : List α} {k : Nat} (h : L.drop k = []) (hk : k ≤ L.length) : k = L.length := by
  have := congrArg List.length h
  rw [List.length_drop, List.length_nil] at this
  omega
set_option maxHeartbeats 4000000 in
set_option maxRecDepth 20000 in
theorem split_any (bs : List Nat) (v : Value) (w : World) (hnb : NbIs w) (h : Bys w v bs) (hl : bs.length ≤ 100000) : Calls Tryd.prog 24 #[v] w (SpPost w (spU bs 0)) := by
  obtain ⟨a, cap, rfl⟩ := h.form
  obtain ⟨n, hn⟩ : ∃ n, bs.length = n := ⟨_, rfl⟩
  rw [hn] at h hl ⊢
  obtain ⟨⟨F, L⟩, hR⟩ : ∃ R, spU bs 0 = R := ⟨_, rfl⟩
  have hLc : L.length ≤ n := by
    have := sp_count bs (n + 1) 0 (by omega)
    rw [hR, hn] at this
    exact this
  rw [hR]
  have HB := Lib.hid h
  have HN := Lib.hid hn
  have HNB := Lib.hid hnb
  have HDB := Lib.hid h.2.1
  have H0 : Hid (spU bs 0 = (F, L.drop 0)) := hR
  clear h hn hnb hR
  go_enter Tryd.func24, Tryd.ntmps24
  go_wp2
  go_loopw [4, 5] (fun ov iv wr => ∃ (k p : Nat) (S : Nat → Value), (k ≤ L.length ∧ p ≤ n) ∧ iv = .int .i64 (p : Int) ∧ Hid (spU bs p = (F, L.drop k)) ∧ Hid (wr.ownsRow w.heap.size 44 4 ov k (ucs L S k)) ∧ Hid (UnOwn wr w.heap.size L S k ov) ∧ Hid (Ext w wr)) (fun _ iv _ => n - (intOf iv).toNat)
  case atStart => exact ⟨0, 0, fun _ => .slice none 0 0, ⟨Nat.zero_le _, Nat.zero_le _⟩, rfl, H0, World.ownsRow_nil _ _ _ _, fun q hq => absurd hq (Nat.not_lt_zero _), Ext.refl w⟩
  case round =>
    obtain ⟨k, p, S, ⟨hk, hp⟩, rfl, HP, HO, HS, HE⟩ := hrel
    by_cases hlt : p < n
    · have UP := next_any bs (p : Int) (.slice a n cap) wr (HNB.out.ext HE.out) (HB.out.ext HE.out)
      rcases sp_step bs p (by rw [HN.out]; exact hlt) with ⟨K, D, E, e1, ⟨e2, e3, e4⟩, e5, e6⟩ | ⟨C, e1, e2, e3⟩
      · rw [HP.out] at e6
        obtain ⟨f1, f2⟩ := Prod.mk.inj e6
        obtain ⟨g1, g2, g3⟩ := drop_cons f2
        have HP2 : Hid (spU bs (p + E) = (F, L.drop (k + 1))) := by show _ = _; rw [f1, g2]
        have HU : Hid (unD L k = (K, D, (p : Int), (E : Int) + (p : Int))) := by show _ = _; unfold unD; rw [List.getD, g1]; rfl
        have HD : Hid (∀ x ∈ D, x < 256) := fun x hx => HDB.out x (e5 x hx)
        rw [e1] at UP
        rw [HN.out] at e3
        have UQ := Lib.hid UP
        clear e1 e5 e6 f1 f2 g1 g2 H0 HP UP
        go_wp2_with fail
        refine (UQ.out).mono ?_; rintro e w5 ⟨u, x, rfl, ho, hx, hx5⟩
        obtain rfl : x = .nilIface := hx
        obtain ⟨ua, uc, rfl⟩ := uform ho
        have E6 : Ext w5 (w5.alloc (.cells #[.int .i64 (K : Int), .slice ua D.length uc, .int .i64 (p : Int), .int .i64 ((E : Int) + (p : Int))] 44)) := (Ext.refl w5).alloc _
        have HE6 := Lib.hid ((HE.out.trans hx5).trans E6)
        have HO6 := Lib.hid (ownsRow_ext (ownsRow_ext HO.out hx5) E6)
        have HS6 := Lib.hid ((HS.out.ext hx5).ext E6)
        have HU6 := Lib.hid (ownsRow_ext (owns_base ho HE.out.size) E6)
        have hap : Apart u4 (.slice ua D.length uc) := fun b h1 h2 => absurd (HO.out.lt b h1).2 (by have := (ho.lt b h2).1; omega)
        have HAP := Lib.hid hap
        have hne : Hid (some w5.heap.size ≠ u4.ownBlock) := fun e => by have := (HO.out.lt _ e.symm).2; have := hx5.size; omega
        have hB6 : w.heap.size ≤ (w5.alloc (.cells #[.int .i64 (K : Int), .slice ua D.length uc, .int .i64 (p : Int), .int .i64 ((E : Int) + (p : Int))] 44)).heap.size := HE6.out.size
        have HC6 : Hid ((w5.alloc (.cells #[.int .i64 (K : Int), .slice ua D.length uc, .int .i64 (p : Int), .int .i64 ((E : Int) + (p : Int))] 44)).cell? ⟨w5.heap.size, 3, none⟩ = some (.int .i64 ((E : Int) + (p : Int)))) := by show _ = _; simp
        clear HO HS HE ho hx5 hap E6 UQ
        go_wp2_with (at_builtin; refine push_un rfl _ _ 52 rfl Tryd.underlying52 _ k _ (K : Int) (p : Int) ((E : Int) + (p : Int)) (.slice ua D.length uc) rfl rfl HO6.out (by show Value.slice (some ⟨_, 0, none⟩) 1 1 = _; simp) hB6 (by omega) ?_; intro v8 w8 h1 h2 h3; have HU8 := Lib.hid (push_bys HU6.out HAP.out h2 h3); have HS8 : Hid (UnOwn w8 w.heap.size L S k v8) := fun q hq => ⟨(push_bys (HS6.out q hq).1 (HS6.out q hq).2.2.2 h2 h3).1, (HS6.out q hq).2.1, (HS6.out q hq).2.2.1, (push_bys (HS6.out q hq).1 (HS6.out q hq).2.2.2 h2 h3).2⟩; have HE8 : Hid (Ext w w8) := HE6.out.of_below (Below.grown (Below.refl _ _) h2 hB6 (fun k hk => (HO6.out.lt k hk).1)) (Nat.le_refl _); have HO8 := Lib.hid h1; have c8 : w8.cell? ⟨w5.heap.size, 3, none⟩ = some (.int .i64 ((E : Int) + (p : Int))) := (World.cell?_of_block (h2.block w5.heap.size (by simp) hne.out)).trans HC6.out; clear h1 h2 h3)
        go_roundw
        case rel =>
          refine ⟨k + 1, p + E, fun q => if q = k then .slice ua D.length uc else S q, ⟨by omega, e3⟩, ?_, HP2, ?_, ?_, HE8⟩
          · rw [Int.add_comm, Int.natCast_add]
          · show World.ownsRow _ _ _ _ _ _ _
            rw [ucs_succ, ucs_congr (M := L) (T := S) (fun q hq => if_neg (by omega)) (fun _ _ => rfl), if_pos rfl, HU.out]
            exact HO8.out
          · intro q hq
            by_cases hqk : q = k
            · subst hqk
              simp only [if_true]
              rw [HU.out]
              exact ⟨HU8.out.1, HD.out, by show D.length ≤ 100000; omega, HU8.out.2⟩
            · simp only [if_neg hqk]
              exact HS8.out q (by omega)
        case measure => simp [intOf]; omega
      · rw [HP.out] at e3
        obtain ⟨f1, f2⟩ := Prod.mk.inj e3
        obtain rfl := drop_nil f2 hk
        subst f1
        rw [e2] at UP
        have UQ := Lib.hid UP
        clear e1 e2 e3 f2 H0 HP UP
        go_wp2_with fail
        refine (UQ.out).mono ?_; rintro e w5 ⟨u, x, rfl, ho, hx, hx5⟩
        obtain ⟨tz, qz, rfl⟩ := hx.ne
        obtain ⟨ua, uc, rfl⟩ := uform ho
        have E6 : Ext w5 (w5.alloc (.cells #[.int .i64 0, .slice ua 0 uc, .int .i64 0, .int .i64 0] 44)) := (Ext.refl w5).alloc _
        have HE6 := Lib.hid ((HE.out.trans hx5).trans E6)
        have HO6 := Lib.hid (ownsRow_ext (ownsRow_ext HO.out hx5) E6)
        have HS6 := Lib.hid ((HS.out.ext hx5).ext E6)
        have HX6 := Lib.hid (ErrIs.ext hx E6)
        clear HO HS HE ho hx hx5 E6 UQ
        go_wp2
        go_ret2
        exact ⟨_, _, S, rfl, HO6.out, HS6.out, HX6.out, HE6.out⟩
    · have hpn : p = n := by omega
      subst hpn
      have e3 := sp_done (bs := bs) (a := p) (by rw [HN.out]; exact Nat.le_refl _)
      rw [HP.out] at e3
      obtain ⟨f1, f2⟩ := Prod.mk.inj e3
      obtain rfl := drop_nil f2 hk
      subst f1
      clear e3 f2 hlt
      have hlt : ¬ (p : Int) < (p : Int) := by omega
      go_wp2
      exact bodyPost_ret (v := .tuple #[u4, .nilIface]) (by simp [results, Tryd.results24, go_sem]) rfl ⟨_, _, S, rfl, HO.out, HS.out, rfl, HE.out⟩
end Go.Proofs.YtkjllhphpkmaiaaDoor
