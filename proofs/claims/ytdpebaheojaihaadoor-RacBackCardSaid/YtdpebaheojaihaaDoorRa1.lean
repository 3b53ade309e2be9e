/- An encoder of bits as one number: plain. -/
import Derived.Test.YtdpebaheojaihaaDoorBwr3
namespace Go.Proofs.YtdpebaheojaihaaDoor
set_option linter.unusedVariables false
set_option linter.unusedSimpArgs false
open Go.RowKit Go.Extern.Stop Go.Stop Go.Extern

structure Ec where
  done : List Nat
  held : Int
  run : Nat
  low : Nat
  wid : Nat
def hdE (s : Ec) : List Nat := if 0 ≤ s.held then [(s.held % 256).toNat] else []
/-- a carry; a byte moved; moved until it is wide enough; narrowed to a part -/
def carE (s : Ec) : Ec := if s.run = 0 then { s with held := s.held + 1 } else { s with done := s.done ++ (((s.held + 1) % 256).toNat :: List.replicate (s.run - 1) 0), held := 0, run := 0 }
def shfE (s : Ec) : Ec := if s.low / 16777216 = 255 then { s with run := s.run + 1, low := s.low % 16777216 * 256 } else { s with done := s.done ++ (hdE s ++ List.replicate s.run 255), held := ((s.low / 16777216 : Nat) : Int), run := 0, low := s.low % 16777216 * 256 }
def stpE (s : Ec) : Ec := { shfE s with wid := s.wid * 256 }
def nrmE : Nat → Ec → Ec
  | 0, s => s
  | f + 1, s => if s.wid < 16777216 then nrmE f (stpE s) else s
def upE (s : Ec) (w : Nat) : Ec := if 4294967296 ≤ s.low + w then carE { s with low := s.low + w - 4294967296, wid := s.wid - w } else { s with low := s.low + w, wid := s.wid - w }
def midE (s : Ec) (w : Nat) (up : Bool) : Ec := if up then upE s w else { s with wid := w }
def parE (s : Ec) (w : Nat) (up : Bool) : Ec := nrmE 3 (midE s w up)
/-- all its bytes, those that are told -/
def allE (s : Ec) : List Nat := s.done ++ hdE s ++ List.replicate s.run 255 ++ [s.low / 16777216 % 256, s.low / 65536 % 256, s.low / 256 % 256, s.low % 256]
def lenE (s : Ec) : Nat := s.done.length + s.run + 4 + if 0 ≤ s.held then 1 else 0
def trimE : List Nat → List Nat
  | [] => []
  | x :: t => if x = 0 ∧ trimE t = [] then [] else x :: trimE t
theorem allE_len (s : Ec) : (allE s).length = lenE s := by
  unfold allE lenE hdE
  split <;> simp <;> omega
/-- what bounds it -/
def okE (N : Nat) (s : Ec) : Prop := s.done.length + s.run ≤ N ∧ (-1 ≤ s.held ∧ s.held ≤ 255 + N) ∧ s.low < 4294967296 ∧ s.wid < 4294967296 ∧ ∀ x ∈ s.done, x < 256
theorem okE.mono {N M : Nat} {s : Ec} (h : okE N s) (k : N ≤ M) : okE M s := by
  obtain ⟨h1, h2, h3, h4, h5⟩ := h
  exact ⟨by omega, by omega, h3, h4, h5⟩
theorem hdE_lt (s : Ec) : ∀ x ∈ hdE s, x < 256 := by
  unfold hdE
  split
  · intro x hx
    rw [List.mem_singleton] at hx
    omega
  · intro x hx
    cases hx
theorem carE_ok {N : Nat} {s : Ec} (h : okE N s) : okE (N + 1) (carE s) ∧ (carE s).wid = s.wid ∧ (carE s).low = s.low := by
  obtain ⟨h1, h2, h3, h4, h5⟩ := h
  unfold carE
  split
  · refine ⟨⟨?_, ?_, h3, h4, h5⟩, rfl, rfl⟩
    · show s.done.length + s.run ≤ _
      omega
    · show -1 ≤ s.held + 1 ∧ s.held + 1 ≤ 255 + ((N + 1 : Nat) : Int)
      omega
  · refine ⟨⟨?_, ⟨by show (-1 : Int) ≤ 0; omega, by show (0 : Int) ≤ 255 + ((N + 1 : Nat) : Int); omega⟩, h3, h4, ?_⟩, rfl, rfl⟩
    · show (s.done ++ (((s.held + 1) % 256).toNat :: List.replicate (s.run - 1) 0)).length + 0 ≤ _
      simp
      omega
    · intro x hx
      rcases List.mem_append.1 hx with hx | hx
      · exact h5 x hx
      · rcases List.mem_cons.1 hx with rfl | hx
        · omega
        · rw [List.eq_of_mem_replicate hx]; decide
theorem shfE_ok {N : Nat} {s : Ec} (h : okE N s) : okE (N + 1) (shfE s) ∧ (shfE s).wid = s.wid := by
  obtain ⟨h1, h2, h3, h4, h5⟩ := h
  unfold shfE
  split
  · refine ⟨⟨?_, ⟨h2.1, by show s.held ≤ 255 + ((N + 1 : Nat) : Int); omega⟩, by show s.low % 16777216 * 256 < 4294967296; omega, h4, h5⟩, rfl⟩
    show s.done.length + (s.run + 1) ≤ _
    omega
  · refine ⟨⟨?_, ⟨by show (-1 : Int) ≤ ((s.low / 16777216 : Nat) : Int); omega, by show ((s.low / 16777216 : Nat) : Int) ≤ 255 + ((N + 1 : Nat) : Int); omega⟩, by show s.low % 16777216 * 256 < 4294967296; omega, h4, ?_⟩, rfl⟩
    · show (s.done ++ (hdE s ++ List.replicate s.run 255)).length + 0 ≤ _
      unfold hdE
      split <;> simp <;> omega
    · intro x hx
      rcases List.mem_append.1 hx with hx | hx
      · exact h5 x hx
      · rcases List.mem_append.1 hx with hx | hx
        · exact hdE_lt s x hx
        · rw [List.eq_of_mem_replicate hx]; decide
theorem stpE_ok {N : Nat} {s : Ec} (h : okE N s) (hw : s.wid < 16777216) : okE (N + 1) (stpE s) := by
  obtain ⟨⟨h1, h2, h3, h4, h5⟩, -⟩ := shfE_ok h
  exact ⟨h1, h2, h3, by show s.wid * 256 < 4294967296; omega, h5⟩
theorem midE_ok {N w : Nat} {s : Ec} {up : Bool} (h : okE N s) (hw : w ≤ s.wid) : okE (N + 1) (midE s w up) := by
  obtain ⟨h1, h2, h3, h4, h5⟩ := h
  unfold midE
  split
  · unfold upE
    split
    · refine (carE_ok (s := { s with low := s.low + w - 4294967296, wid := s.wid - w }) ⟨h1, h2, ?_, ?_, h5⟩).1
      · show s.low + w - 4294967296 < 4294967296
        omega
      · show s.wid - w < 4294967296
        omega
    · exact (okE.mono (N := N) ⟨h1, h2, by show s.low + w < 4294967296; omega, by show s.wid - w < 4294967296; omega, h5⟩ (by omega))
  · exact (okE.mono (N := N) ⟨h1, h2, h3, by show w < 4294967296; omega, h5⟩ (by omega))
theorem midE_wid {w : Nat} {s : Ec} {up : Bool} : (midE s w up).wid = if up then s.wid - w else w := by
  unfold midE
  split
  · unfold upE
    split
    · unfold carE
      split <;> rfl
    · rfl
  · rfl
/-- moving as long as it is too narrow: three times at most -/
theorem nrm_fuel {s : Ec} : ∀ {f : Nat}, 16777216 ≤ s.wid * 256 ^ f → ∀ g, f ≤ g → nrmE g s = nrmE f s := by
  intro f
  induction f generalizing s with
  | zero =>
    intro h g _
    have h : 16777216 ≤ s.wid := by simpa using h
    cases g with
    | zero => rfl
    | succ g => show (if s.wid < 16777216 then _ else s) = s; rw [if_neg (by omega)]
  | succ f ih =>
    intro h g hg
    obtain ⟨g, rfl⟩ : ∃ k, g = k + 1 := ⟨g - 1, by omega⟩
    show (if s.wid < 16777216 then nrmE g (stpE s) else s) = (if s.wid < 16777216 then nrmE f (stpE s) else s)
    rw [ih (s := stpE s) (by show 16777216 ≤ s.wid * 256 * 256 ^ f; rw [Nat.mul_assoc, ← Nat.pow_succ']; exact h) g (by omega)]
theorem nrm_ok {N : Nat} {s : Ec} : ∀ (f : Nat), okE N s → okE (N + f) (nrmE f s) := by
  intro f
  induction f generalizing s N with
  | zero => intro h; exact h
  | succ f ih =>
    intro h
    show okE _ (if s.wid < 16777216 then nrmE f (stpE s) else s)
    split
    · rename_i hw
      have := ih (stpE_ok h hw)
      rw [show N + 1 + f = N + (f + 1) by omega] at this
      exact this
    · exact h.mono (by omega)
theorem nrm_wide {s : Ec} : ∀ (f : Nat), 16777216 ≤ s.wid * 256 ^ f → 16777216 ≤ (nrmE f s).wid := by
  intro f
  induction f generalizing s with
  | zero => intro h; have h : 16777216 ≤ s.wid := by simpa using h
            exact h
  | succ f ih =>
    intro h
    show 16777216 ≤ (if s.wid < 16777216 then nrmE f (stpE s) else s).wid
    split
    · exact ih (s := stpE s) (by show 16777216 ≤ s.wid * 256 * 256 ^ f; rw [Nat.mul_assoc, ← Nat.pow_succ']; exact h)
    · omega
theorem parE_ok {N w : Nat} {s : Ec} {up : Bool} (h : okE N s) (h1 : 1 ≤ w) (h2 : w < s.wid) : okE (N + 4) (parE s w up) ∧ 16777216 ≤ (parE s w up).wid := by
  refine ⟨nrm_ok 3 (midE_ok h (by omega)), nrm_wide 3 ?_⟩
  rw [midE_wid]
  show 16777216 ≤ _ * 16777216
  split <;> omega
end Go.Proofs.YtdpebaheojaihaaDoor
