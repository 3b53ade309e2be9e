/- Bytes as strings; kinref.Bytes: its contract over this seat's translation. -/
import Derived.Test.YtdpebaheojaihaaDoorBcl
import Derived.Laws.BytesArg
namespace Go.Proofs.YtdpebaheojaihaaDoor
set_option linter.unusedVariables false
set_option linter.unusedSimpArgs false
open Go.RowKit Go.Extern.Stop Go.Stop Go.Extern

def strOf (bs : List Nat) : ByteArray := strOfNums (bs.map fun x : Nat => (x : Int))
theorem conv_bys {w : World} {a : Option Addr} {n cap : Nat} {bs : List Nat} (h : Bys w (.slice a n cap) bs) : (convert 42 9 (.slice a n cap)).run Tryd.prog w = .ok (.string (strOf bs)) w := by
  have hl := h.len
  by_cases h0 : n = 0
  · subst h0
    obtain rfl : bs = [] := List.eq_nil_of_length_eq_zero hl.symm
    rw [run_convert_bytes_string w 42 9 5 _ 0 cap Tryd.underlying42 Tryd.underlying5 Tryd.underlying9]
    cases a <;> simp [Conv.bytesToString, loadCells]
    all_goals rfl
  · obtain ⟨g, off, rfl⟩ := h.had (by omega)
    refine run_convert_bytes_arg w 42 5 Tryd.underlying42 Tryd.underlying5 g off n cap (bs.map fun x : Nat => (x : Int)) (by rw [List.length_map, hl]) (fun i hi => ?_) 9 Tryd.underlying9
    rw [h.at (nget_of_lt (j := i) (by omega))]
    have e : (bs.map fun x : Nat => (x : Int)).getD i 0 = ((bs.getD i 0 : Nat) : Int) := by
      rw [List.getD, List.getElem?_map, nget_of_lt (j := i) (by omega)]
      rfl
    rw [e]
theorem strOf_data (bs : List Nat) : (strOf bs).data.toList = bs.map fun x => UInt8.ofNat x := by
  unfold strOf strOfNums
  simp [List.map_map]
theorem strOf_inj {xs ys : List Nat} (hx : ∀ x ∈ xs, x < 256) (hy : ∀ x ∈ ys, x < 256) (h : strOf xs = strOf ys) : xs = ys := by
  have h2 : xs.map (fun x => UInt8.ofNat x) = ys.map fun x => UInt8.ofNat x := by rw [← strOf_data, ← strOf_data, h]
  have h3 := congrArg (List.map UInt8.toNat) h2
  rw [List.map_map, List.map_map] at h3
  have id1 : ∀ zs : List Nat, (∀ x ∈ zs, x < 256) → zs.map (UInt8.toNat ∘ fun x => UInt8.ofNat x) = zs := fun zs hz => by
    conv => rhs; rw [← List.map_id zs]
    apply List.map_congr_left
    intro x hx
    have := hz x hx
    simp [Nat.mod_eq_of_lt this]
  rwa [id1 xs hx, id1 ys hy] at h3
set_option maxRecDepth 20000 in
theorem bytes_same (bs : List Nat) (u v : Value) (w : World) (h : Bys w u bs) (k : Bys w v bs) : Calls Tryd.prog 19 #[u, v] w fun e w' => e = .returned (.bool true) ∧ w = w' := by
  obtain ⟨a, ca, rfl⟩ := h.form
  obtain ⟨b, cb, rfl⟩ := k.form
  have c1 := conv_bys h
  have c2 := conv_bys k
  generalize strOf bs = s at *
  generalize bs.length = n at *
  clear h k
  go_enter Tryd.func19, Tryd.ntmps19
  go_wp2
  go_ret
  exact ⟨rfl, rfl⟩
end Go.Proofs.YtdpebaheojaihaaDoor
