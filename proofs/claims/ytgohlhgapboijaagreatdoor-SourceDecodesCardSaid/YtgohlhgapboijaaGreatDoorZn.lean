/- Contracts of this seat: Grp, Grp2, Of, Sc1, ScG, CpO, REd, CpFs. -/
import Derived.Test.YtgohlhgapboijaaGreatDoorZg
import Derived.Test.YtgohlhgapboijaaGreatDoorZe
import Derived.Deep.RegionHeld3
import Derived.Laws.Rows
import Derived.BigQuiet
import Derived.Deep.QuietTactic
import Derived.Test.YtgohlhgapboijaaGreatDoorZc
/- kinlaw16.plain; lists of groups; scene.Groups: contracts over this seat's translation. -/
namespace Go.Proofs.YtgohlhgapboijaaGreatDoor
set_option linter.unusedVariables false
set_option linter.unusedSimpArgs false
open Go.RowKit Go.Extern.Stop Go.Stop Go.Extern

/-- cells of groups -/
def gcells (G : List (Int × Int)) : List Value := G.flatMap fun p => [.int .i64 p.1, .int .i64 p.2]
theorem gcells_len (G : List (Int × Int)) : (gcells G).length = 2 * G.length := by
  induction G with
  | nil => rfl
  | cons p G ih => simp only [gcells, List.flatMap_cons, List.length_append, List.length_cons, List.length_nil] at ih ⊢; omega
theorem gcells_snoc (G : List (Int × Int)) (a b : Int) : gcells (G ++ [(a, b)]) = gcells G ++ [.int .i64 a, .int .i64 b] := by
  unfold gcells
  rw [List.flatMap_append]
  rfl
theorem gcells_at (G : List (Int × Int)) (a b : Int) : (gcells (G ++ [(a, b)]))[G.length * 2]? = some (.int .i64 a) ∧ (gcells (G ++ [(a, b)]))[G.length * 2 + 1]? = some (.int .i64 b) := by
  have hl := gcells_len G
  rw [gcells_snoc]
  constructor
  · rw [List.getElem?_append_right (by omega), hl, show G.length * 2 - 2 * G.length = 0 by omega]
    rfl
  · rw [List.getElem?_append_right (by omega), hl, show G.length * 2 + 1 - 2 * G.length = 1 by omega]
    rfl
theorem gcells_set (G : List (Int × Int)) (a b c : Int) : (gcells (G ++ [(a, b)])).set (G.length * 2 + 1) (.int .i64 c) = gcells (G ++ [(a, c)]) := by
  have hl := gcells_len G
  rw [gcells_snoc, gcells_snoc, List.set_append, if_neg (by omega), hl, show G.length * 2 + 1 - 2 * G.length = 1 by omega]
  rfl
theorem gcells_one (G : List (Int × Int)) : ∀ x ∈ gcells G, x.oneCell' = true := fun x hx => by
  unfold gcells at hx
  obtain ⟨p, _, hp⟩ := List.mem_flatMap.1 hx
  simp only [List.mem_cons, List.not_mem_nil, or_false] at hp
  rcases hp with rfl | rfl <;> rfl
theorem own2_set {w : World} {base n cap g j : Nat} {e : TypeId} {s : Nat} {xs : List Value} (v : Value) (h : w.ownsRow base e s (.slice (some ⟨g, 0, none⟩) n cap) n xs) :
    (w.setCell ⟨g, j, none⟩ v).ownsRow base e s (.slice (some ⟨g, 0, none⟩) n cap) n (xs.set j v) := by
  obtain ⟨hl, h | ⟨g', cap', cur, e', hb, hg, h1, h2, hs, ht⟩⟩ := h
  · cases h.1
  · simp only [Value.slice.injEq, Option.some.injEq, Addr.mk.injEq, and_true, true_and] at e'
    obtain ⟨rfl, rfl⟩ := e'
    refine ⟨by simpa using hl, Or.inr ⟨g, cap, cur.setIfInBounds j v, rfl, hb, heap_setCell_same w g j cur e v hg, h1, h2, by simpa using hs, ?_⟩⟩
    rw [← ht]
    simp [List.take_set]
theorem own2_cell {w : World} {base n cap g j : Nat} {e : TypeId} {s : Nat} {xs : List Value} {v : Value} (h : w.ownsRow base e s (.slice (some ⟨g, 0, none⟩) n cap) n xs) (hj : xs[j]? = some v) : w.cell? ⟨g, j, none⟩ = some v ∧ w.frozen? ⟨g, j, none⟩ = false := by
  obtain ⟨hl, h | ⟨g', cap', cur, e', hb, hg, h1, h2, hs, ht⟩⟩ := h
  · cases h.1
  · simp only [Value.slice.injEq, Option.some.injEq, Addr.mk.injEq, and_true, true_and] at e'
    obtain ⟨rfl, rfl⟩ := e'
    rw [← ht, List.getElem?_take] at hj
    split at hj
    · constructor
      · unfold World.cell?
        simp only [hg]
        simpa using hj
      · unfold World.frozen?
        simp only [hg]
        simp
    · cases hj
end Go.Proofs.YtgohlhgapboijaaGreatDoor

/- scene.Groups: its contract over this seat's translation. -/
namespace Go.Proofs.YtgohlhgapboijaaGreatDoor
set_option linter.unusedVariables false
set_option linter.unusedSimpArgs false
open Go.RowKit Go.Extern.Stop Go.Stop Go.Extern

def frD (L : List Fr) (k : Nat) : Fr := L.getD k (0, 0, [])
def ansAt (L : List Fr) (k : Nat) : Fall := frAns (frD L (k - 1)).1 (frD L (k - 1)).2.1 (frD L (k - 1)).2.2 (frD L k).1 (frD L k).2.1 (frD L k).2.2
def unlAt (L : List Fr) (k : Nat) : Int := unlV (frD L (k - 1)).1 (frD L (k - 1)).2.1 (frD L (k - 1)).2.2 (frD L k).1 (frD L k).2.1 (frD L k).2.2
/-- the groups behind k frames: all but the last, the last -/
def grpS (L : List Fr) (cut gop : Int) : Nat → List (Int × Int) × Int × Int
  | 0 => ([], 0, 0)
  | k + 1 => if cut < unlAt L k ∨ (grpS L cut gop k).2.2 = gop then ((grpS L cut gop k).1 ++ [((grpS L cut gop k).2.1, (grpS L cut gop k).2.2)], (k : Int), 1) else ((grpS L cut gop k).1, (grpS L cut gop k).2.1, (grpS L cut gop k).2.2 + 1)
def grpL (L : List Fr) (cut gop : Int) (k : Nat) : List (Int × Int) := (grpS L cut gop k).1 ++ [((grpS L cut gop k).2.1, (grpS L cut gop k).2.2)]
theorem grpS_bound (L : List Fr) (cut gop : Int) (k : Nat) : (grpS L cut gop k).1.length ≤ k ∧ 0 ≤ (grpS L cut gop k).2.2 ∧ (grpS L cut gop k).2.2 ≤ k := by
  induction k with
  | zero => simp [grpS]
  | succ k ih =>
    unfold grpS
    split
    · simp only [List.length_append, List.length_cons, List.length_nil]; omega
    · simp only []; push_cast; omega
def scn : ByteArray := { data := #[115, 99, 101, 110, 101] }
def grpF (L : List Fr) : Nat → Fall
  | 0 => none
  | k + 1 => match grpF L k with
    | some f => some f
    | none => match ansAt L k with
      | none => none
      | some (p, c) => some ((scn, (k : Int)) :: p, c)
theorem grpF_some {L : List Fr} {k : Nat} {f : List (ByteArray × Int) × Int} (h : grpF L k = some f) (d : Nat) : grpF L (k + d) = some f := by
  induction d with
  | zero => exact h
  | succ d ih => show grpF L (k + d + 1) = _; unfold grpF; rw [ih]
theorem grpF_at {L : List Fr} {k n : Nat} {p : List (ByteArray × Int)} {c : Int} (h : grpF L k = none) (ha : ansAt L k = some (p, c)) (hk : k < n) : grpF L n = some ((scn, (k : Int)) :: p, c) := by
  have h1 : grpF L (k + 1) = some ((scn, (k : Int)) :: p, c) := by unfold grpF; rw [h, ha]
  have := grpF_some h1 (n - (k + 1))
  rwa [show k + 1 + (n - (k + 1)) = n by omega] at this
theorem grpF_next {L : List Fr} {k : Nat} (h : grpF L k = none) (ha : ansAt L k = none) : grpF L (k + 1) = none := by unfold grpF; rw [h, ha]
def grpAns (L : List Fr) (cut gop : Int) : Fall := if cut < 0 ∨ 16320 < cut ∨ gop < 1 ∨ 16 < gop then range else if L.length = 0 ∨ 16 < L.length then form else grpF L L.length
def grpV (L : List Fr) (cut gop : Int) : List (Int × Int) := match grpAns L cut gop with
  | none => grpL L cut gop L.length
  | some _ => []
/-- groups and an error -/
def GPost (w : World) (G : List (Int × Int)) (f : Fall) (e : Ending) (w' : World) : Prop := ∃ u x, e = .returned (.tuple #[u, x]) ∧ Ext w w' ∧ Row w' u G.length (gcells G) ∧ ErrIs w' f x
theorem own_addr2 {w : World} {base n : Nat} {e : TypeId} {s : Nat} {v : Value} {xs : List Value} (h : w.ownsRow base e s v n xs) (hn : 0 < n) : ∃ g cap, v = .slice (some ⟨g, 0, none⟩) n cap := by
  obtain ⟨hl, h'⟩ := id h
  rcases h' with ⟨h1, h2⟩ | ⟨g, cap, cur, e, -⟩
  · omega
  · exact ⟨g, cap, e⟩
end Go.Proofs.YtgohlhgapboijaaGreatDoor

/- scene.Of: its contract over this seat's translation. -/
namespace Go.Proofs.YtgohlhgapboijaaGreatDoor
set_option linter.unusedVariables false
set_option linter.unusedSimpArgs false
open Go.RowKit Go.Extern.Stop Go.Stop Go.Extern

def inG (x : Int) (p : Int × Int) : Prop := 0 < p.2 ∧ p.1 ≤ x ∧ x - p.1 < p.2
instance (x : Int) (p : Int × Int) : Decidable (inG x p) := by unfold inG; exact inferInstance
/-- the first group with a frame in it, from the k-th on -/
def ofV (x : Int) : List (Int × Int) → Int → Int
  | [], _ => -1
  | p :: G, k => if inG x p then k else ofV x G (k + 1)
theorem gcells_get (G : List (Int × Int)) (q : Nat) (p : Int × Int) (h : G[q]? = some p) : (gcells G)[q * 2]? = some (.int .i64 p.1) ∧ (gcells G)[q * 2 + 1]? = some (.int .i64 p.2) := by
  induction G generalizing q with
  | nil => simp at h
  | cons a G ih =>
    have e : gcells (a :: G) = .int .i64 a.1 :: .int .i64 a.2 :: gcells G := rfl
    rw [e]
    cases q with
    | zero => simp at h; subst h; exact ⟨rfl, rfl⟩
    | succ q =>
      have h' : G[q]? = some p := by simpa using h
      obtain ⟨h1, h2⟩ := ih q h'
      rw [show (q + 1) * 2 = q * 2 + 1 + 1 by omega, show q * 2 + 1 + 1 + 1 = (q * 2 + 1) + 1 + 1 by omega]
      exact ⟨by simpa using h1, by simpa using h2⟩
def small (p : Int × Int) : Prop := -9223372036854775808 ≤ p.1 ∧ p.1 ≤ 9223372036854775807 ∧ -9223372036854775808 ≤ p.2 ∧ p.2 ≤ 9223372036854775807
theorem ofV_step (x : Int) (G : List (Int × Int)) (q : Nat) (p : Int × Int) (h : G[q]? = some p) : ofV x (G.drop q) q = if inG x p then (q : Int) else ofV x (G.drop (q + 1)) ((q : Int) + 1) := by
  obtain ⟨hq, e⟩ := List.getElem?_eq_some_iff.1 h
  rw [List.drop_eq_getElem_cons hq, e]
  rfl
end Go.Proofs.YtgohlhgapboijaaGreatDoor

/- kinlaw16.first; kinlaw16.SceneUnlikes: the walks. -/
namespace Go.Proofs.YtgohlhgapboijaaGreatDoor
set_option linter.unusedVariables false
set_option linter.unusedSimpArgs false
open Go.RowKit Go.Extern.Stop Go.Stop Go.Extern

theorem FrIn.mk {w : World} {g i : Nat} {W H : Int} {a : Option Addr} {n cap : Nat} {zs : List Int} (h0 : w.cell? ⟨g, i, none⟩ = some (.int .i64 W)) (h1 : w.cell? ⟨g, i + 1, none⟩ = some (.int .i64 H)) (h2 : w.cell? ⟨g, i + 2, none⟩ = some (.slice a n cap)) (h3 : Row w (.slice a n cap) zs.length (zs.map (Value.int .i64))) : FrIn w g i (W, H, zs) := ⟨a, n, cap, h0, h1, h2, h3⟩
theorem fms2 (w : World) (W H W' H' : Int) (a b : Option Addr) (n m ca cb : Nat) (xs ys : List Int) (ha : Row w (.slice a n ca) xs.length (xs.map (Value.int .i64))) (hb : Row w (.slice b m cb) ys.length (ys.map (Value.int .i64))) :
    Fms (w.alloc (.cells #[.int .i64 W, .int .i64 H, .slice a n ca, .int .i64 W', .int .i64 H', .slice b m cb] 48)) (.slice (some ⟨w.heap.size, 0, none⟩) 2 2) [(W, H, xs), (W', H', ys)] := by
  have A : Ext w (w.alloc (.cells #[.int .i64 W, .int .i64 H, .slice a n ca, .int .i64 W', .int .i64 H', .slice b m cb] 48)) := (Ext.refl w).alloc _
  refine ⟨_, _, rfl, fun _ => ⟨w.heap.size, 0, rfl, fun q f hq => ?_⟩⟩
  match q, hq with
  | 0, hq => cases hq; exact FrIn.mk (by simp) (by simp) (by simp) (ha.ext A)
  | 1, hq => cases hq; exact FrIn.mk (by simp) (by simp) (by simp) (hb.ext A)
  | q + 2, hq => simp at hq
theorem fms3 (w : World) (W H : Int) (a b c : Option Addr) (n ca cb cc : Nat) (xs : List Int) (ha : Row w (.slice a n ca) xs.length (xs.map (Value.int .i64))) (hb : Row w (.slice b n cb) xs.length (xs.map (Value.int .i64))) (hc : Row w (.slice c n cc) xs.length (xs.map (Value.int .i64))) :
    Fms (w.alloc (.cells #[.int .i64 W, .int .i64 H, .slice a n ca, .int .i64 W, .int .i64 H, .slice b n cb, .int .i64 W, .int .i64 H, .slice c n cc] 48)) (.slice (some ⟨w.heap.size, 0, none⟩) 3 3) [(W, H, xs), (W, H, xs), (W, H, xs)] := by
  have A : Ext w (w.alloc (.cells #[.int .i64 W, .int .i64 H, .slice a n ca, .int .i64 W, .int .i64 H, .slice b n cb, .int .i64 W, .int .i64 H, .slice c n cc] 48)) := (Ext.refl w).alloc _
  refine ⟨_, _, rfl, fun _ => ⟨w.heap.size, 0, rfl, fun q f hq => ?_⟩⟩
  match q, hq with
  | 0, hq => cases hq; exact FrIn.mk (by simp) (by simp) (by simp) (ha.ext A)
  | 1, hq => cases hq; exact FrIn.mk (by simp) (by simp) (by simp) (hb.ext A)
  | 2, hq => cases hq; exact FrIn.mk (by simp) (by simp) (by simp) (hc.ext A)
  | q + 3, hq => simp at hq
def P3 : List Int := rowL 64 fun _ => 3
def P0 : List Int := rowL 64 fun _ => 0
def P1 : List Int := rowL 64 fun _ => 1
def L3 : List Fr := [(8, 8, P3), (8, 8, P3), (8, 8, P3)]
theorem l3_facts : grpAns L3 0 16 = none ∧ grpV L3 0 16 = [(0, 3)] ∧ grpAns L3 0 2 = none ∧ grpV L3 0 2 = [(0, 2), (2, 1)] := by decide +kernel
theorem p01_facts : frAns 8 8 P0 8 8 P1 = none ∧ unlV 8 8 P0 8 8 P1 = 64 := by decide +kernel
theorem nil_facts : grpAns [] 0 1 = form ∧ grpV [] 0 1 = [] := by decide +kernel
theorem of_fact : ofV 2 [(0, 2), (2, 1)] 0 = 1 := by decide
theorem l3_small : ∀ (q : Nat) (f : Fr), L3[q]? = some f → f.2.2.length ≤ 1000000 := fun q f hq => by
  have hm := List.mem_of_getElem? hq
  unfold L3 at hm
  simp only [List.mem_cons, List.not_mem_nil, or_false] at hm
  rcases hm with rfl | rfl | rfl <;> (show P3.length ≤ _; unfold P3; rw [rowL_length]; decide)
theorem g2_small : ∀ (q : Nat) (p : Int × Int), ([(0, 2), (2, 1)] : List (Int × Int))[q]? = some p → small p := fun q p hq => by
  have hm := List.mem_of_getElem? hq
  simp only [List.mem_cons, List.not_mem_nil, or_false] at hm
  rcases hm with rfl | rfl <;> (unfold small; decide)
theorem row_opened {w : World} {v : Value} {n : Nat} {xs : List Value} (h : Row w v n xs) (hn : 0 < n) : ∃ g off cap, v = .slice (some ⟨g, off, none⟩) n cap ∧ ∀ j u, xs[j]? = some u → w.cell? ⟨g, off + j, none⟩ = some u := by
  obtain ⟨a, cap, h0, h1, h2, h3, h4⟩ := h
  obtain ⟨g, off, rfl⟩ := h3 hn
  exact ⟨g, off, cap, h0, fun j u hu => h4 g off rfl j u hu⟩
end Go.Proofs.YtgohlhgapboijaaGreatDoor

/- kinref.Groups, kinref.Frames of two that are the same: contracts over this seat's translation. -/
namespace Go.Proofs.YtgohlhgapboijaaGreatDoor
set_option linter.unusedVariables false
set_option linter.unusedSimpArgs false
open Go.RowKit Go.Extern.Stop Go.Stop Go.Extern

set_option maxRecDepth 20000 in
set_option maxHeartbeats 4000000 in
theorem frames_same (L : List Fr) (u v : Value) (w : World) (hu : Fms w u L) (hv : Fms w v L) (hl : L.length ≤ 1000000) (hsm : Hid (∀ (q : Nat) (f : Fr), L[q]? = some f → f.2.2.length ≤ 1000000)) :
    Calls Tryz.prog 12 #[u, v] w fun e w' => e = .returned (.bool true) ∧ Ext w w' := by
  obtain ⟨a, ca, rfl⟩ := hu.form
  obtain ⟨b, cb, rfl⟩ := hv.form
  obtain ⟨n, hn⟩ : ∃ n, n = L.length := ⟨_, rfl⟩
  have HN := Lib.hid hn
  rw [← hn] at hu hv hl ⊢
  have AG := Lib.hid hu.had
  have BG := Lib.hid hv.had
  clear hn
  go_enter Tryz.func12, Tryz.ntmps12
  go_wp2
  go_loopw [5] (fun iv wr => ∃ k : Nat, k ≤ n ∧ iv = .int .i64 k ∧ Ext w wr) (fun iv _ => n - (intOf iv).toNat)
  case atStart => exact ⟨0, Nat.zero_le _, rfl, Ext.refl w⟩
  case round =>
    obtain ⟨k, hk, rfl, hE⟩ := hrel
    by_cases hlt : k < n
    · obtain ⟨f, hf⟩ : ∃ f, L[k]? = some f := ⟨_, List.getElem?_eq_getElem (by rw [← HN.out]; exact hlt)⟩
      obtain ⟨g, o, rfl⟩ := AG.out (by omega)
      obtain ⟨g', o', rfl⟩ := BG.out (by omega)
      obtain ⟨fa, fn, fc, p0, p1, p2, p3⟩ := (hu.at hf).ext hE
      obtain ⟨pa, pn, pc, q0, q1, q2, q3⟩ := (hv.at hf).ext hE
      have H1 : Hid (Ints wr (.slice fa fn fc) f.2.2) := ⟨p3, Nat.le_trans (hsm.out _ _ hf) (by decide)⟩
      have H2 : Hid (Ints wr (.slice pa pn pc) f.2.2) := ⟨q3, Nat.le_trans (hsm.out _ _ hf) (by decide)⟩
      clear p3 q3 hf
      go_wp2_with fail
      go_region_held3 (fun w' => w'.cell? ⟨g, o + k * 3, none⟩ = some (.int .i64 f.1) ∧ w'.cell? ⟨g, o + k * 3 + 1, none⟩ = some (.int .i64 f.2.1) ∧ w'.cell? ⟨g, o + k * 3 + 2, none⟩ = some (.slice fa fn fc) ∧ w'.cell? ⟨g', o' + k * 3, none⟩ = some (.int .i64 f.1) ∧ w'.cell? ⟨g', o' + k * 3 + 1, none⟩ = some (.int .i64 f.2.1) ∧ w'.cell? ⟨g', o' + k * 3 + 2, none⟩ = some (.slice pa pn pc) ∧ Ext wr w')
        (first | assumption | (exact ⟨p0, p1, p2, q0, q1, q2, Ext.refl _⟩) | (exact ⟨p0, p1, p2, q0, q1, q2, (Ext.refl _).drew⟩) | (go_split_ands; exact ⟨hx.cell (by assumption), hx.cell (by assumption), hx.cell (by assumption), hx.cell (by assumption), hx.cell (by assumption), hx.cell (by assumption), Ext.trans (by assumption) hx⟩))
        ((go_at_call 32; obtain ⟨_, _, _, _, _, _, hE1⟩ : _ ∧ _ ∧ _ ∧ _ ∧ _ ∧ _ ∧ Ext wr _ := (by assumption); refine (frame_same f.1 f.2.1 f.2.2 _ _ _ _ _ _ _ (H1.out.ext hE1) (H2.out.ext hE1)).mono ?_; rintro e w' ⟨rfl, hx⟩))
      obtain ⟨_, _, _, _, _, _, hE1⟩ : _ ∧ _ ∧ _ ∧ _ ∧ _ ∧ _ ∧ Ext wr _ := by assumption
      have hE9 := hE.trans hE1
      clear p0 p1 p2 q0 q1 q2 H1 H2 hE hE1
      go_wp2
      go_roundw
      case rel => exact ⟨k + 1, by omega, by go_num, hE9⟩
      case measure => simp [intOf]; omega
    · have hkn : ¬ (k : Int) < (n : Int) := by omega
      clear hlt
      go_wp2
      go_ret
      exact ⟨rfl, hE⟩
end Go.Proofs.YtgohlhgapboijaaGreatDoor

/- kinref.CopyFrame: a frame of the call's own. -/
namespace Go.Proofs.YtgohlhgapboijaaGreatDoor
set_option linter.unusedVariables false
set_option linter.unusedSimpArgs false
open Go.RowKit Go.Extern.Stop Go.Stop Go.Extern

set_option maxRecDepth 20000 in
set_option maxHeartbeats 2000000 in
theorem copy_frame_own (W H : Int) (zs : List Int) (a : Option Addr) (n cap : Nat) (w : World) (h : Ints w (.slice a n cap) zs) (hl : zs.length ≤ 1000000) :
    Calls Tryz.prog 17 #[.agg #[.int .i64 W, .int .i64 H, .slice a n cap]] w fun e w' => ∃ u, e = .returned (.agg #[.int .i64 W, .int .i64 H, u]) ∧ w'.ownsRow w.heap.size 3 1 u zs.length (zs.map (Value.int .i64)) ∧ Ext w w' := by
  have C1 := Lib.hid (fun v W k => copy_own zs v W k hl)
  have A1 : Ext w (w.alloc (.cells #[.int .i64 W, .int .i64 H, .slice a n cap] 48)) := (Ext.refl w).alloc _
  have R1 := FrAt.new (w.alloc (.cells #[.int .i64 W, .int .i64 H, .slice a n cap] 48))
  rw [show (w.alloc (.cells #[.int .i64 W, .int .i64 H, .slice a n cap] 48)).heap.size = w.heap.size + 1 by simp] at R1
  have p0 : ((w.alloc (.cells #[.int .i64 W, .int .i64 H, .slice a n cap] 48)).alloc (.cells #[.int .i64 0, .int .i64 0, .slice none 0 0] 48)).cell? ⟨w.heap.size, 0, none⟩ = some (.int .i64 W) := ((Ext.refl _).alloc _).cell (by simp)
  have p1 : ((w.alloc (.cells #[.int .i64 W, .int .i64 H, .slice a n cap] 48)).alloc (.cells #[.int .i64 0, .int .i64 0, .slice none 0 0] 48)).cell? ⟨w.heap.size, 1, none⟩ = some (.int .i64 H) := ((Ext.refl _).alloc _).cell (by simp)
  have p2 : ((w.alloc (.cells #[.int .i64 W, .int .i64 H, .slice a n cap] 48)).alloc (.cells #[.int .i64 0, .int .i64 0, .slice none 0 0] 48)).cell? ⟨w.heap.size, 2, none⟩ = some (.slice a n cap) := ((Ext.refl _).alloc _).cell (by simp)
  have E1 : Ext w ((w.alloc (.cells #[.int .i64 W, .int .i64 H, .slice a n cap] 48)).alloc (.cells #[.int .i64 0, .int .i64 0, .slice none 0 0] 48)) := A1.alloc _
  clear A1
  go_enter Tryz.func17, Tryz.ntmps17
  go_wp2_with fail
  revert R1 p0 p1 p2 E1
  generalize (w.alloc (.cells #[.int .i64 W, .int .i64 H, .slice a n cap] 48)).alloc (.cells #[.int .i64 0, .int .i64 0, .slice none 0 0] 48) = wA
  intro R1 p0 p1 p2 E1
  have RW := Lib.hid R1
  clear R1
  go_region_with ((go_at_call 47; refine (C1.out _ _ (h.ext (by repeat (first | exact Ext.refl _ | assumption | refine Ext.alloc ?_ _ | refine Ext.drew ?_ | refine Ext.drewN ?_ _ | refine Ext.setCell ?_ (by first | exact Nat.le_refl _ | (simp; done) | omega) _ | refine Ext.trans ?_ (by assumption))))).mono ?_; rintro e w9 ⟨u9, rfl, hz9, hx9⟩; have s0 := hx9.cell (show wA.drew.cell? _ = _ from p0); have s1 := hx9.cell (show wA.drew.cell? _ = _ from p1); have s2 := hx9.cell (show wA.drew.cell? _ = _ from p2); have RB := FrAt.ext (show FrAt wA.drew _ from RW.out) hx9; obtain ⟨⟨b0, b1, b2⟩, f0, f1, f2⟩ := RB; obtain ⟨a9, c9, rfl⟩ := (Ints.of_owns hz9 (by omega)).form))
  all_goals
    have hsz : w.heap.size + 1 < wA.drew.heap.size := Ext.lt RW.out.1.1
    have ho := ownsRow_setCell_below (ownsRow_setCell_below (ownsRow_setCell_below hz9 (a := ⟨w.heap.size + 1, 0, none⟩) hsz (.int .i64 W)) (a := ⟨w.heap.size + 1, 1, none⟩) hsz (.int .i64 H)) (a := ⟨w.heap.size + 1, 2, none⟩) hsz (.slice a9 zs.length c9)
    have E9 : Ext w w9 := (by repeat (first | exact Ext.refl _ | assumption | refine Ext.alloc ?_ _ | refine Ext.drew ?_ | refine Ext.drewN ?_ _ | refine Ext.setCell ?_ (by first | exact Nat.le_refl _ | (simp; done) | omega) _ | refine Ext.trans ?_ (by assumption)))
    go_wp2
    obtain ⟨g0, g1, g2⟩ := fr_cells W H (.slice a9 zs.length c9) b0 b1 b2
    exact bodyPost_ret (v := .agg #[.int .i64 W, .int .i64 H, .slice a9 zs.length c9]) (by simp [results, Tryz.results17, go_sem, g0, g1, g2]) rfl ⟨_, rfl, own_mono ho (by omega), ((E9.setCell (by simp) _).setCell (by simp) _).setCell (by simp) _⟩
end Go.Proofs.YtgohlhgapboijaaGreatDoor

/- kinref10.Edges: its contract over this seat's translation. -/
namespace Go.Proofs.YtgohlhgapboijaaGreatDoor
set_option linter.unusedVariables false
set_option linter.unusedSimpArgs false
open Go.RowKit Go.Extern.Stop Go.Stop Go.Extern

/-- two slices of the call's own that share no block -/
def Apart (u v : Value) : Prop := ∀ b, u.ownBlock = some b → v.ownBlock ≠ some b
theorem Apart.symm {u v : Value} (h : Apart u v) : Apart v u := fun b h1 h2 => h b h2 h1
theorem push_two {W W' : World} {base n : Nat} {tv lv v' : Value} {xs : List Value} (hl : W.ownsRow base 3 1 lv n xs) (ap : Apart tv lv) (g : W.grownBy W' tv.ownBlock) (hv : v'.ownBlock = tv.ownBlock ∨ v'.ownBlock = some (W.heap.size + 1)) :
    W'.ownsRow base 3 1 lv n xs ∧ Apart v' lv := by
  refine ⟨own_grownBy hl g ?_, fun b h1 h2 => ?_⟩
  · cases hb : lv.ownBlock with
    | none => exact Or.inl rfl
    | some b => exact Or.inr (fun e => ap b e.symm hb)
  · rcases hv with hv | hv
    · exact ap b (hv.symm.trans h1) h2
    · have e : b = W.heap.size + 1 := Option.some.inj (h1.symm.trans hv)
      have := (hl.lt b h2).2
      omega
theorem rowL_se (k : Nat) (f : Nat → Int) : (rowL (k + 1) f).map (Value.int .i64) = (rowL k f).map (Value.int .i64) ++ [.int .i64 (f k)] := by
  unfold rowL
  rw [List.range_succ, List.map_append, List.map_append]
  rfl
theorem grown_below {W W' : World} {base n : Nat} {tv : Value} {xs : List Value} (ht : W.ownsRow base 3 1 tv n xs) (g : W.grownBy W' tv.ownBlock) (hb : base ≤ W.heap.size) : Below base W W' :=
  Below.grown (Below.refl base W) g hb (fun k hk => (ht.lt k hk).1)
/-- the neighbours of a square, by the document -/
def topF (W : Int) (zs : List Int) (x y : Int) (i : Nat) : Int := placeF W zs (x + i) (y - 1)
def leftF (W : Int) (zs : List Int) (x y : Int) (i : Nat) : Int := placeF W zs (x - 1) (y + i)
/-- has a square neighbours -/
def edOk (W H : Int) (zs : List Int) (x y n : Int) : Prop := may W H zs ∧ (n = 4 ∨ n = 8) ∧ liesB W H x y n = true
def NoEdges (w : World) (e : Ending) (w' : World) : Prop := e = .returned (.tuple #[.slice none 0 0, .slice none 0 0, .int .i64 0]) ∧ Ext w w'
end Go.Proofs.YtgohlhgapboijaaGreatDoor

/- kinref.CopyFrames: its contract over this seat's translation. -/
namespace Go.Proofs.YtgohlhgapboijaaGreatDoor
set_option linter.unusedVariables false
set_option linter.unusedSimpArgs false
open Go.RowKit Go.Extern.Stop Go.Stop Go.Extern

theorem infoFr : (Tryz.prog.info? 48).map (fun i => (i.zero, i.size, i.bytes)) = some (some (.agg #[.int .i64 0, .int .i64 0, .slice none 0 0]), 3, 40) := by kernel_rfl
theorem push_fr {ops : Array Oper} {rest : List Oper} {o : Oper} {a : Act} {Q : Exit → Act → World → Prop} {Wd : World} {base : Nat} (hgd : o.guard = none) (s y : Operand) (t : TypeId)
    (ho : o.op = .call { callee := .builtin .append, args := #[s, y], argTypes := #[t, t] }) (ht : Tryz.prog.underlying t = some (.slice 48))
    (v : Value) (n : Nat) (xs : List Value) (W H : Int) (su : Value) (hsu : su.oneCell' = true) (hs : a.eval s = v) (hown : Wd.ownsRow base 48 3 v n xs) (hx : a.eval y = .slice (some ⟨Wd.heap.size, 0, none⟩) 1 1) (hb : base ≤ Wd.heap.size) (hn : n ≤ 1000000)
    (h : ∀ v' w', w'.ownsRow base 48 3 v' (n + 1) (xs ++ [.int .i64 W, .int .i64 H, su]) → Wd.grownBy w' v.ownBlock → (v'.ownBlock = v.ownBlock ∨ v'.ownBlock = some (Wd.heap.size + 1)) → wpList Tryz.prog ops Q rest (a.put o.dst v') w') :
    wpList Tryz.prog ops Q (o :: rest) a (Wd.alloc (.cells #[.int .i64 W, .int .i64 H, su] 48)) := by
  obtain ⟨i0, hi, hz0, hz1, hz2⟩ := info_parts infoFr
  refine wpList_append_own_at _ hgd s y t ho base 48 i0 _ 3 40 ht hi hz0 hz1 hz2 rfl (by decide) v n xs hs (hown.alloc _) ⟨Wd.heap.size, 0, none⟩ 1 1 [.int .i64 W, .int .i64 H, su] hx rfl (World.news_of_block (cs := #[.int .i64 W, .int .i64 H, su]) (t := 48) (fr := (0, 0)) (heap_alloc_new Wd _)) ?_ (by unfold maxLen; omega) (by omega) (by simp; omega) ?_
  · intro x hx
    simp only [List.mem_cons, List.not_mem_nil, or_false] at hx
    rcases hx with rfl | rfl | rfl
    · rfl
    · rfl
    · exact hsu
  intro v' w' h1 h2 h3 h4
  refine h v' w' h1 ⟨h2.os, h2.tape, h2.output, Nat.le_trans (by simp) h2.size, fun k hk hne => ?_⟩ (by simpa using h4)
  exact (h2.block k (by simp; omega) hne).trans (Below.heap_alloc Wd _ k hk)
def fcells (L : List Fr) (S : Nat → Value) (k : Nat) : List Value := (List.range k).flatMap fun q => [.int .i64 (frD L q).1, .int .i64 (frD L q).2.1, S q]
theorem fcells_len (L : List Fr) (S : Nat → Value) (k : Nat) : (fcells L S k).length = k * 3 := by
  induction k with
  | zero => rfl
  | succ k ih => unfold fcells at ih ⊢; rw [List.range_succ, List.flatMap_append, List.length_append, ih]; simp; omega
theorem fcells_succ (L : List Fr) (S : Nat → Value) (k : Nat) : fcells L S (k + 1) = fcells L S k ++ [.int .i64 (frD L k).1, .int .i64 (frD L k).2.1, S k] := by
  unfold fcells
  rw [List.range_succ, List.flatMap_append]
  simp
theorem fcells_congr (L : List Fr) {S T : Nat → Value} {k : Nat} (h : ∀ q, q < k → S q = T q) : fcells L S k = fcells L T k := by
  induction k with
  | zero => rfl
  | succ k ih => rw [fcells_succ, fcells_succ, ih fun q hq => h q (by omega), h k (by omega)]
theorem fcells_get (L : List Fr) (S : Nat → Value) (k q : Nat) (hq : q < k) : (fcells L S k)[q * 3]? = some (.int .i64 (frD L q).1) ∧ (fcells L S k)[q * 3 + 1]? = some (.int .i64 (frD L q).2.1) ∧ (fcells L S k)[q * 3 + 2]? = some (S q) := by
  induction k with
  | zero => omega
  | succ k ih =>
    have hl := fcells_len L S k
    rw [fcells_succ]
    by_cases h : q < k
    · obtain ⟨h1, h2, h3⟩ := ih h
      refine ⟨?_, ?_, ?_⟩
      · rw [List.getElem?_append_left (by omega)]; exact h1
      · rw [List.getElem?_append_left (by omega)]; exact h2
      · rw [List.getElem?_append_left (by omega)]; exact h3
    · obtain rfl : q = k := by omega
      refine ⟨?_, ?_, ?_⟩
      · rw [List.getElem?_append_right (by omega), hl, Nat.sub_self]; rfl
      · rw [List.getElem?_append_right (by omega), hl, show q * 3 + 1 - q * 3 = 1 by omega]; rfl
      · rw [List.getElem?_append_right (by omega), hl, show q * 3 + 2 - q * 3 = 2 by omega]; rfl
/-- the copies' rows, each of the call's own, none the list itself -/
def CopOk (w : World) (base : Nat) (L : List Fr) (S : Nat → Value) (k : Nat) (ov : Value) : Prop := ∀ q, q < k → w.ownsRow base 3 1 (S q) (frD L q).2.2.length ((frD L q).2.2.map (Value.int .i64)) ∧ Apart ov (S q)
set_option maxRecDepth 20000 in
set_option maxHeartbeats 4000000 in
theorem copy_frames (L : List Fr) (v : Value) (w : World) (h : Fms w v L) (hl : L.length ≤ 100000) (hsm : Hid (∀ (q : Nat) (f : Fr), L[q]? = some f → f.2.2.length ≤ 1000000)) :
    Calls Tryz.prog 7 #[v] w fun e w' => ∃ u, e = .returned u ∧ Fms w' u L ∧ Ext w w' := by
  obtain ⟨a, cap, rfl⟩ := h.form
  obtain ⟨n, hn⟩ : ∃ n, n = L.length := ⟨_, rfl⟩
  have HN := Lib.hid hn
  rw [← hn] at h hl ⊢
  have AG := Lib.hid h.had
  clear hn
  go_enter Tryz.func7, Tryz.ntmps7
  go_wp2
  go_loopw [3, 4] (fun ov iv wr => ∃ (k : Nat) (S : Nat → Value), k ≤ n ∧ iv = .int .i64 k ∧ Hid (wr.ownsRow w.heap.size 48 3 ov k (fcells L S k)) ∧ Hid (CopOk wr w.heap.size L S k ov) ∧ Ext w wr) (fun _ iv _ => n - (intOf iv).toNat)
  case atStart => exact ⟨0, fun _ => .slice none 0 0, Nat.zero_le _, rfl, World.ownsRow_nil _ _ _ _, fun q hq => absurd hq (Nat.not_lt_zero _), Ext.refl w⟩
  case round =>
    obtain ⟨k, S, hk, rfl, HO, HS, hE⟩ := hrel
    by_cases hlt : k < n
    · obtain ⟨f, hf⟩ : ∃ f, L[k]? = some f := ⟨_, List.getElem?_eq_getElem (by rw [← HN.out]; exact hlt)⟩
      have hfd : frD L k = f := by unfold frD; rw [List.getD, hf]; rfl
      have HFD := Lib.hid hfd
      obtain ⟨g, o, rfl⟩ := AG.out (by omega)
      obtain ⟨fa, fn, fc, p0, p1, p2, p3⟩ := (h.at hf).ext hE
      have hz := hsm.out _ _ hf
      have HI : Hid (Ints wr (.slice fa fn fc) f.2.2) := ⟨p3, Nat.le_trans hz (by decide)⟩
      have CF := Lib.hid (fun w k => copy_frame_own f.1 f.2.1 f.2.2 fa fn fc w k hz)
      clear p3 hf hfd hz
      go_wp2_with fail
      refine (CF.out _ HI.out).mono ?_; rintro e w5 ⟨u5, rfl, ho5, hx5⟩
      obtain ⟨ua, uc, rfl⟩ := own_slice ho5
      have E5 := hE.trans hx5
      have HO5 := Lib.hid (own_ext HO.out hx5)
      have hap : Apart _ (.slice ua f.2.2.length uc) := fun b h1 h2 => absurd (HO.out.lt b h1).2 (by have := (ho5.lt b h2).1; omega)
      have HAP := Lib.hid hap
      have HU5 := Lib.hid (own_mono ho5 hE.size)
      have HS5 : Hid (CopOk w5 w.heap.size L S k _) := fun q hq => ⟨own_ext (HS.out q hq).1 hx5, (HS.out q hq).2⟩
      have hB5 := E5.size
      clear HO HS hE hx5 ho5 p0 p1 p2 hap
      go_wp2_with (at_builtin; refine push_fr rfl _ _ 22 rfl Tryz.underlying22 _ k _ f.1 f.2.1 (.slice ua f.2.2.length uc) rfl rfl HO5.out (by show Value.slice (some ⟨w5.heap.size, 0, none⟩) 1 1 = _; simp) hB5 (by omega) ?_; intro v8 w8 h1 h2 h3; have HU8 := Lib.hid (push_two HU5.out HAP.out h2 h3); have HS8 : Hid (CopOk w8 w.heap.size L S k v8) := fun q hq => push_two (HS5.out q hq).1 (HS5.out q hq).2 h2 h3; have E8 : Ext w w8 := E5.of_below (Below.grown (Below.refl _ _) h2 hB5 (fun k hk => (HO5.out.lt k hk).1)) (Nat.le_refl _); have HO8 := Lib.hid h1; clear h1 h2 h3)
      go_roundw
      case rel =>
        refine ⟨k + 1, fun q => if q = k then .slice ua f.2.2.length uc else S q, by omega, by go_num, ?_, ?_, E8⟩
        · show World.ownsRow _ _ _ _ _ _ _
          rw [fcells_succ, fcells_congr L (T := S) (fun q hq => if_neg (by omega)), if_pos rfl, HFD.out]
          exact HO8.out
        · intro q hq
          by_cases hqk : q = k
          · subst hqk
            simp only [if_true]
            rw [HFD.out]
            exact HU8.out
          · simp only [if_neg hqk]
            exact HS8.out q (by omega)
      case measure => simp [intOf]; omega
    · have hkn : k = n := by omega
      have hkm : ¬ (k : Int) < (n : Int) := by omega
      clear hlt
      go_wp2
      go_ret
      refine ⟨_, rfl, ?_, hE⟩
      obtain ⟨ua, uc, e⟩ := own_slice HO.out
      refine ⟨ua, uc, by rw [← HN.out, ← hkn]; exact e, fun h0 => ?_⟩
      obtain ⟨g, gc, e2⟩ := own_addr2 HO.out (by have := HN.out; omega)
      have e3 := e.symm.trans e2
      simp only [Value.slice.injEq, true_and] at e3
      obtain ⟨rfl, rfl⟩ := e3
      refine ⟨g, 0, rfl, fun q f hq => ?_⟩
      obtain ⟨hql, -⟩ := List.getElem?_eq_some_iff.1 hq
      have hqk : q < k := by have := HN.out; omega
      have hfd : frD L q = f := by unfold frD; rw [List.getD, hq]; rfl
      obtain ⟨g1, g2, g3⟩ := fcells_get L S k q hqk
      obtain ⟨o1, -⟩ := HS.out q hqk
      rw [e2] at HO
      obtain ⟨sa, sc, hS⟩ := own_slice o1
      rw [hS] at g3 o1
      rw [hfd] at g1 g2 g3 o1
      rw [Nat.zero_add]
      exact ⟨sa, _, sc, (own2_cell HO.out g1).1, (own2_cell HO.out g2).1, (own2_cell HO.out g3).1, Row.of_owns o1⟩
end Go.Proofs.YtgohlhgapboijaaGreatDoor
