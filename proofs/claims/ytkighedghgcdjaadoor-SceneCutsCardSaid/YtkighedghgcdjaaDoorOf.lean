/- scene.Of: its contract over this seat's translation. -/
import Derived.Test.YtkighedghgcdjaaDoorGrp
namespace Go.Proofs.YtkighedghgcdjaaDoor
set_option linter.unusedVariables false
set_option linter.unusedSimpArgs false
open Go.RowKit Go.Extern.Stop Go.Stop Go.Extern

def inG (x : Int) (p : Int × Int) : Prop := 0 < p.2 ∧ p.1 ≤ x ∧ x - p.1 < p.2
instance (x : Int) (p : Int × Int) : Decidable (inG x p) := by unfold inG; exact inferInstance
/-- the first group with a frame in it, from the k-th on -/
def ofV (x : Int) : List (Int × Int) → Int → Int
  | [], _ => -1
  | p :: G, k => if inG x p then k else ofV x G (k + 1)
theorem gcells_get (G : List (Int × Int)) (q : Nat) (p : Int × Int) (h : G[q]? = some p) : (gcells G)[q * 2]? = some (.int .i64 p.1) ∧ (gcells G)[q * 2 + 1]? = some (.int .i64 p.2) := by
  induction G generalizing q with
  | nil => simp at h
  | cons a G ih =>
    have e : gcells (a :: G) = .int .i64 a.1 :: .int .i64 a.2 :: gcells G := rfl
    rw [e]
    cases q with
    | zero => simp at h; subst h; exact ⟨rfl, rfl⟩
    | succ q =>
      have h' : G[q]? = some p := by simpa using h
      obtain ⟨h1, h2⟩ := ih q h'
      rw [show (q + 1) * 2 = q * 2 + 1 + 1 by omega, show q * 2 + 1 + 1 + 1 = (q * 2 + 1) + 1 + 1 by omega]
      exact ⟨by simpa using h1, by simpa using h2⟩
def small (p : Int × Int) : Prop := -9223372036854775808 ≤ p.1 ∧ p.1 ≤ 9223372036854775807 ∧ -9223372036854775808 ≤ p.2 ∧ p.2 ≤ 9223372036854775807
theorem ofV_step (x : Int) (G : List (Int × Int)) (q : Nat) (p : Int × Int) (h : G[q]? = some p) : ofV x (G.drop q) q = if inG x p then (q : Int) else ofV x (G.drop (q + 1)) ((q : Int) + 1) := by
  obtain ⟨hq, e⟩ := List.getElem?_eq_some_iff.1 h
  rw [List.drop_eq_getElem_cons hq, e]
  rfl
set_option maxRecDepth 20000 in
set_option maxHeartbeats 4000000 in
theorem of_any (G : List (Int × Int)) (x : Int) (v : Value) (w : World) (h : Row w v G.length (gcells G)) (hl : G.length ≤ 1000000) (hx : -9223372036854775808 ≤ x ∧ x ≤ 9223372036854775807) (hG : Hid (∀ (q : Nat) (p : Int × Int), G[q]? = some p → small p)) :
    Calls Tryd.prog 50 #[v, .int .i64 x] w fun e w' => e = .returned (.int .i64 (ofV x G 0)) ∧ Ext w w' := by
  obtain ⟨a, cap, rfl⟩ := h.form
  obtain ⟨n, hn⟩ : ∃ n, n = G.length := ⟨_, rfl⟩
  have HN := Lib.hid hn
  rw [← hn] at h hl ⊢
  have HROW := Lib.hid h
  obtain ⟨hx1, hx2⟩ := hx
  clear hn h
  go_enter Tryd.func50, Tryd.ntmps50
  go_wp2
  go_loopw [9] (fun iv wr => ∃ k : Nat, k ≤ n ∧ iv = .int .i64 k ∧ Hid (ofV x G 0 = ofV x (G.drop k) k) ∧ Ext w wr) (fun iv _ => n - (intOf iv).toNat)
  case atStart => exact ⟨0, Nat.zero_le _, rfl, rfl, Ext.refl _⟩
  case round =>
    obtain ⟨k, hk, rfl, HO, hE⟩ := hrel
    by_cases hlt : k < n
    · obtain ⟨p, hp⟩ : ∃ p, G[k]? = some p := ⟨_, List.getElem?_eq_getElem (by rw [← HN.out]; exact hlt)⟩
      obtain ⟨a', cap', e', l1, l2, l3, l4⟩ := HROW.out.ext hE
      simp only [Value.slice.injEq, true_and] at e'
      obtain ⟨rfl, rfl⟩ := e'
      obtain ⟨g, off, rfl⟩ := l3 (by omega)
      obtain ⟨d1, d2⟩ := gcells_get G k p hp
      have c1 := l4 g off rfl _ _ d1
      have c2 := l4 g off rfl _ _ d2
      have HST := Lib.hid (ofV_step x G k p hp)
      obtain ⟨s1, s2, s3, s4⟩ := hG.out _ _ hp
      obtain ⟨F, C⟩ := p
      change wr.cell? ⟨g, off + k * 2, none⟩ = some (.int .i64 F) at c1
      change wr.cell? ⟨g, off + (k * 2 + 1), none⟩ = some (.int .i64 C) at c2
      change -9223372036854775808 ≤ F at s1
      change F ≤ 9223372036854775807 at s2
      change -9223372036854775808 ≤ C at s3
      change C ≤ 9223372036854775807 at s4
      rw [← Nat.add_assoc] at c2
      have EB : Ext w (wr.alloc (.cells #[.int .i64 F, .int .i64 C] 69)) := hE.alloc _
      clear d1 d2 hp l1 l2 l3 l4
      by_cases h1 : 0 < C
      · by_cases h2 : F ≤ x
        · have u1 : IntKind.u64.wrap C = C := by rw [IntKind.wrap_u64]; omega
          have u2 : IntKind.u64.wrap (IntKind.u64.wrap x - IntKind.u64.wrap F) = x - F := by rw [IntKind.wrap_u64, IntKind.wrap_u64, IntKind.wrap_u64]; omega
          by_cases h3 : x - F < C
          · have HR : Hid (ofV x G 0 = (k : Int)) := by show _ = _; rw [HO.out, HST.out, if_pos ⟨h1, h2, h3⟩]
            clear hE
            go_wp2
            go_ret
            exact ⟨by rw [HR.out]; rfl, EB⟩
          · have HR : Hid (ofV x G 0 = ofV x (G.drop (k + 1)) ((k + 1 : Nat) : Int)) := by show _ = _; rw [HO.out, HST.out, if_neg (fun e => h3 e.2.2)]; rfl
            clear hE
            go_wp2
            go_roundw
            case rel => exact ⟨k + 1, by omega, by go_num, HR, EB⟩
            case measure => simp [intOf]; omega
        · have HR : Hid (ofV x G 0 = ofV x (G.drop (k + 1)) ((k + 1 : Nat) : Int)) := by show _ = _; rw [HO.out, HST.out, if_neg (fun e => h2 e.2.1)]; rfl
          clear hE
          go_wp2
          go_roundw
          case rel => exact ⟨k + 1, by omega, by go_num, HR, EB⟩
          case measure => simp [intOf]; omega
      · have HR : Hid (ofV x G 0 = ofV x (G.drop (k + 1)) ((k + 1 : Nat) : Int)) := by show _ = _; rw [HO.out, HST.out, if_neg (fun e => h1 e.1)]; rfl
        clear hE
        go_wp2
        go_roundw
        case rel => exact ⟨k + 1, by omega, by go_num, HR, EB⟩
        case measure => simp [intOf]; omega
    · have hkn : ¬ (k : Int) < (n : Int) := by omega
      have HR : Hid (ofV x G 0 = -1) := by show _ = _; rw [HO.out, List.drop_eq_nil_of_le (by have := HN.out; omega)]; rfl
      clear hlt
      go_wp2
      go_ret
      exact ⟨by rw [HR.out]; rfl, hE⟩
end Go.Proofs.YtkighedghgcdjaaDoor
