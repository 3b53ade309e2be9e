/- Contracts of this seat: CpO, RPut, R7b, R7c, Unl, Fms. -/
import Derived.Test.YtcekpngkfldgkaaGreatDoorWGa
import Derived.Test.YtcekpngkfldgkaaGreatDoorWGb
import Derived.BigRegion
import Derived.Test.YtcekpngkfldgkaaGreatDoorWGg
import Derived.StillTailTactics
import Derived.Deep.RegionWith
/- kinref.CopyFrame: a frame of the call's own. -/
namespace Go.Proofs.YtcekpngkfldgkaaGreatDoor
set_option linter.unusedVariables false
set_option linter.unusedSimpArgs false
open Go.RowKit Go.Extern.Stop Go.Stop Go.Extern

end Go.Proofs.YtcekpngkfldgkaaGreatDoor

/- kinref6.Put: its contract over this seat's translation. -/
namespace Go.Proofs.YtcekpngkfldgkaaGreatDoor
set_option linter.unusedVariables false
set_option linter.unusedSimpArgs false
open Go.RowKit Go.Extern.Stop Go.Stop Go.Extern

end Go.Proofs.YtcekpngkfldgkaaGreatDoor

/- kinref7.Sub: its contract over this seat's translation. -/
namespace Go.Proofs.YtcekpngkfldgkaaGreatDoor
set_option linter.unusedVariables false
set_option linter.unusedSimpArgs false
open Go.RowKit Go.Extern.Stop Go.Stop Go.Extern

end Go.Proofs.YtcekpngkfldgkaaGreatDoor

/- kinref7.Clip, Add: contracts over this seat's translation. -/
namespace Go.Proofs.YtcekpngkfldgkaaGreatDoor
set_option linter.unusedVariables false
set_option linter.unusedSimpArgs false
open Go.RowKit Go.Extern.Stop Go.Stop Go.Extern

end Go.Proofs.YtcekpngkfldgkaaGreatDoor

/- scene.Unlike, kinref16.Unlike: contracts over this seat's translation. -/
namespace Go.Proofs.YtcekpngkfldgkaaGreatDoor
set_option linter.unusedVariables false
set_option linter.unusedSimpArgs false
open Go.RowKit Go.Extern.Stop Go.Stop Go.Extern

theorem Row.zero {w w' : World} {v : Value} (h : Row w v 0 []) : Row w' v 0 [] := by
  obtain ⟨a, cap, h0, h1, h2, h3, -⟩ := h
  exact ⟨a, cap, h0, h1, h2, h3, fun _ _ _ j u hu => by simp at hu⟩
end Go.Proofs.YtcekpngkfldgkaaGreatDoor

/- Lists of frames; kinlaw16.Pix: contracts over this seat's translation. -/
namespace Go.Proofs.YtcekpngkfldgkaaGreatDoor
set_option linter.unusedVariables false
set_option linter.unusedSimpArgs false
open Go.RowKit Go.Extern.Stop Go.Stop Go.Extern

abbrev Fr := Int × Int × List Int
/-- a frame's cells in a list -/
def FrIn (w : World) (g i : Nat) (f : Fr) : Prop := ∃ ra rn rc, w.cell? ⟨g, i, none⟩ = some (.int .i64 f.1) ∧ w.cell? ⟨g, i + 1, none⟩ = some (.int .i64 f.2.1) ∧ w.cell? ⟨g, i + 2, none⟩ = some (.slice ra rn rc) ∧ Row w (.slice ra rn rc) f.2.2.length (f.2.2.map (Value.int .i64))
/-- a slice value that reads as these frames -/
def Fms (w : World) (v : Value) (L : List Fr) : Prop := ∃ (a : Option Addr) (cap : Nat), v = .slice a L.length cap ∧ (0 < L.length → ∃ g off, a = some ⟨g, off, none⟩ ∧ ∀ q f, L[q]? = some f → FrIn w g (off + q * 3) f)
theorem FrIn.ext {w w' : World} {g i : Nat} {f : Fr} (h : FrIn w g i f) (k : Ext w w') : FrIn w' g i f := by
  obtain ⟨ra, rn, rc, h0, h1, h2, h3⟩ := h
  exact ⟨ra, rn, rc, k.cell h0, k.cell h1, k.cell h2, h3.ext k⟩
theorem Fms.ext {w w' : World} {v : Value} {L : List Fr} (h : Fms w v L) (k : Ext w w') : Fms w' v L := by
  obtain ⟨a, cap, h0, h1⟩ := h
  refine ⟨a, cap, h0, fun hl => ?_⟩
  obtain ⟨g, off, e, h2⟩ := h1 hl
  exact ⟨g, off, e, fun q f hq => (h2 q f hq).ext k⟩
theorem Fms.form {w : World} {v : Value} {L : List Fr} (h : Fms w v L) : ∃ a cap, v = .slice a L.length cap := by
  obtain ⟨a, cap, h0, _⟩ := h
  exact ⟨a, cap, h0⟩
theorem Fms.nil (w : World) : Fms w (.slice none 0 0) [] := ⟨none, 0, rfl, fun h => absurd h (Nat.lt_irrefl _)⟩
theorem Fms.len {w : World} {a : Option Addr} {n cap : Nat} {L : List Fr} (h : Fms w (.slice a n cap) L) : n = L.length := by
  obtain ⟨a', cap', e, _⟩ := h
  simp only [Value.slice.injEq] at e
  exact e.2.1
theorem Fms.had {w : World} {a : Option Addr} {n cap : Nat} {L : List Fr} (h : Fms w (.slice a n cap) L) (hn : 0 < n) : ∃ g off, a = some ⟨g, off, none⟩ := by
  have hl := h.len
  obtain ⟨a', cap', e, h3⟩ := h
  simp only [Value.slice.injEq] at e
  obtain ⟨rfl, -, rfl⟩ := e
  obtain ⟨g, off, e, _⟩ := h3 (by omega)
  exact ⟨g, off, e⟩
theorem Fms.at {w : World} {g off n cap : Nat} {L : List Fr} (h : Fms w (.slice (some ⟨g, off, none⟩) n cap) L) {q : Nat} {f : Fr} (hq : L[q]? = some f) : FrIn w g (off + q * 3) f := by
  have hl := h.len
  obtain ⟨a', cap', e, h3⟩ := h
  simp only [Value.slice.injEq] at e
  obtain ⟨rfl, -, rfl⟩ := e
  obtain ⟨hj, -⟩ := List.getElem?_eq_some_iff.1 hq
  obtain ⟨g', off', e, h4⟩ := h3 (by omega)
  obtain ⟨rfl, rfl⟩ : g = g' ∧ off = off' := by simpa using e
  exact h4 q f hq
/-- the samples of the first k frames, as Pix counts them -/
def pixN (L : List Fr) : Nat → Int
  | 0 => 0
  | k + 1 => pixN L k + min (((L.getD k (0, 0, [])).2.2.length : Nat) : Int) 20001
theorem pixN_bound (L : List Fr) (k : Nat) : 0 ≤ pixN L k ∧ pixN L k ≤ 20001 * k := by
  induction k with
  | zero => simp [pixN]
  | succ k ih => unfold pixN; push_cast; omega
def pixB (L : List Fr) : Bool := decide (L.length ≤ 40) && decide (pixN L (min L.length 40) ≤ 20000)
set_option maxRecDepth 20000 in
set_option maxHeartbeats 2000000 in
theorem pix_any (L : List Fr) (v : Value) (w : World) (h : Fms w v L) (hl : L.length ≤ 1000000) :
    Calls Tryz.prog 10 #[v] w fun e w' => e = .returned (.bool (pixB L)) ∧ Ext w w' := by
  obtain ⟨a, cap, rfl⟩ := h.form
  obtain ⟨n, hn⟩ : ∃ n, n = L.length := ⟨_, rfl⟩
  have HN := Lib.hid hn
  rw [← hn] at h hl ⊢
  have AG := Lib.hid h.had
  clear hn
  have r2 := mn2
  go_enter Tryz.func10, Tryz.ntmps10
  go_wp2
  go_loopw [3, 4] (fun sv iv wr => ∃ k : Nat, k ≤ n ∧ k ≤ 40 ∧ iv = .int .i64 k ∧ sv = .int .i64 (pixN L k) ∧ Ext w wr) (fun _ iv _ => n - (intOf iv).toNat)
  case atStart => exact ⟨0, Nat.zero_le _, by omega, rfl, rfl, Ext.refl _⟩
  case round =>
    obtain ⟨k, hk, hk2, rfl, rfl, hE⟩ := hrel
    have b0 := pixN_bound L k
    by_cases hlt : k < n
    · by_cases h40 : k < 40
      · obtain ⟨g, off, rfl⟩ := AG.out (by omega)
        obtain ⟨f, hf⟩ : ∃ f, L[k]? = some f := ⟨_, List.getElem?_eq_getElem (by rw [← HN.out]; exact hlt)⟩
        obtain ⟨ra, rn, rc, c0, c1, c2, c3⟩ := (h.at hf).ext hE
        obtain ⟨ra', rc', e⟩ := c3.form
        simp only [Value.slice.injEq] at e
        obtain ⟨rfl, rfl, rfl⟩ := e
        have HS : Hid (pixN L (k + 1) = pixN L k + min ((f.2.2.length : Nat) : Int) 20001) := by show pixN L k + _ = _; rw [List.getD, hf]; rfl
        have bl : (0 : Int) ≤ (f.2.2.length : Int) := by omega
        clear c3 hf
        revert HS b0 c2 bl
        generalize pixN L k = s
        generalize f.2.2.length = m
        intro b0 c2 HS bl
        have e1 : IntKind.i64.wrap (s + min (m : Int) 20001) = s + min (m : Int) 20001 := by rw [IntKind.wrap_i64]; omega
        go_wp2
        go_roundw
        case rel => exact ⟨k + 1, by omega, by omega, by go_num, by rw [HS.out], hE⟩
        case measure => simp [intOf]; omega
      · have h41 : ¬ n ≤ 40 := by omega
        have HR : Hid (pixB L = false) := by show _ = _; unfold pixB; rw [← HN.out]; simp [h41]
        have k1 : (40 : Int) < (n : Int) := by omega
        clear h41 b0
        go_wp2
        go_ret
        exact ⟨by rw [HR.out]; rfl, hE⟩
    · have h41 : n ≤ 40 := by omega
      have HR : Hid (pixB L = decide (pixN L k ≤ 20000)) := by show _ = _; unfold pixB; rw [← HN.out, show min n 40 = k by omega]; simp [h41]
      have k1 : (n : Int) ≤ 40 := by omega
      revert HR b0
      generalize pixN L k = s
      intro b0 HR
      clear h41
      by_cases hs : s ≤ 20000
      · have t1 : decide (s ≤ 20000) = true := decide_eq_true hs
        go_wp2
        go_ret
        exact ⟨by rw [HR.out, t1]; rfl, hE⟩
      · have t1 : decide (s ≤ 20000) = false := decide_eq_false hs
        go_wp2
        go_ret
        exact ⟨by rw [HR.out, t1]; rfl, hE⟩
end Go.Proofs.YtcekpngkfldgkaaGreatDoor

