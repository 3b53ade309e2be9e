/- kinlaw21.DecodeLeans: what the walk needs. -/
import Derived.Test.YtcekpngkfldgkaaGreatDoorLDeS
import Derived.Deep.RegionHeld3
namespace Go.Proofs.YtcekpngkfldgkaaGreatDoor
set_option linter.unusedVariables false
set_option linter.unusedSimpArgs false
open Go.RowKit Go.Extern.Stop Go.Stop Go.Extern

theorem Cds.drop {w : World} {g off n cap q : Nat} {L : List Cd} (h : Cds w (.slice (some ⟨g, off, none⟩) n cap) L) (hq : q < n) : Cds w (.slice (some ⟨g, off + q * 2, none⟩) (n - q) (cap - q)) (L.drop q) := by
  have hn := h.len
  have hc := h.caps
  refine ⟨_, _, by rw [List.length_drop, hn], ⟨by rw [List.length_drop]; omega, by omega⟩, fun _ => ⟨g, off + q * 2, rfl, fun j c hj => ?_⟩⟩
  rw [List.getElem?_drop] at hj
  have := h.at hj
  rw [show off + (q + j) * 2 = off + q * 2 + j * 2 by omega] at this
  exact this
theorem Cds.take {w : World} {g off n cap q : Nat} {L : List Cd} (h : Cds w (.slice (some ⟨g, off, none⟩) n cap) L) (hq : q ≤ n) : Cds w (.slice (some ⟨g, off, none⟩) q cap) (L.take q) := by
  have hn := h.len
  have hc := h.caps
  refine ⟨_, _, by rw [List.length_take, Nat.min_eq_left (by omega)], ⟨by rw [List.length_take]; omega, by omega⟩, fun _ => ⟨g, off, rfl, fun j c hj => ?_⟩⟩
  rw [List.getElem?_take] at hj
  split at hj
  · exact h.at hj
  · cases hj
theorem Fms.drop {w : World} {g off n cap q : Nat} {L : List Fr} (h : Fms w (.slice (some ⟨g, off, none⟩) n cap) L) : Fms w (.slice (some ⟨g, off + q * 3, none⟩) (n - q) (cap - q)) (L.drop q) := by
  have hn := h.len
  refine ⟨_, _, by rw [List.length_drop, hn], fun _ => ⟨g, off + q * 3, rfl, fun j c hj => ?_⟩⟩
  rw [List.getElem?_drop] at hj
  have := h.at hj
  rw [show off + (q + j) * 3 = off + q * 3 + j * 3 by omega] at this
  exact this
theorem Fms.take {w : World} {g off n cap q : Nat} {L : List Fr} (h : Fms w (.slice (some ⟨g, off, none⟩) n cap) L) (hq : q ≤ n) : Fms w (.slice (some ⟨g, off, none⟩) q cap) (L.take q) := by
  have hn := h.len
  refine ⟨_, _, by rw [List.length_take, Nat.min_eq_left (by omega)], fun _ => ⟨g, off, rfl, fun j c hj => ?_⟩⟩
  rw [List.getElem?_take] at hj
  split at hj
  · exact h.at hj
  · cases hj
theorem at_of (AT : Int) (n : Nat) (hn : 0 < n) (hA : -9223372036854775808 ≤ AT ∧ AT ≤ 9223372036854775807) : ∃ q a : Nat, q < n ∧ (a : Int) = (if AT < 0 then -(AT + 1) else AT) ∧ Int.tmod (a : Int) (n : Int) = (q : Int) ∧ (a : Int) ≤ 9223372036854775807 := by
  refine ⟨(if AT < 0 then -(AT + 1) else AT).toNat % n, (if AT < 0 then -(AT + 1) else AT).toNat, Nat.mod_lt _ hn, ?_, ?_, ?_⟩
  · split <;> omega
  · exact (Int.ofNat_tmod _ _).symm
  · split <;> omega
theorem DfP.key {W' w7 : World} {e : Ending} {f1 f2 : Int} {f3 : List Int} (h : DfP W' (none, (f1, f2, f3)) e w7) : ∃ ua un uc X, e = .returned (.tuple #[.agg #[.int .i64 f1, .int .i64 f2, .slice ua un uc], .nilIface]) ∧ Ext W' w7 ∧ (∀ k, X k → W'.heap.size ≤ k) ∧ HoF w7 X (fun W => Ints W (.slice ua un uc) f3) := by
  obtain ⟨fu, fx, X, rfl, hx7, hX, ho⟩ := h
  have hi7 : Ints w7 fu f3 := ho.get.1
  obtain rfl : fx = .nilIface := ho.get.2
  obtain ⟨ua, uc, rfl⟩ := hi7.form
  exact ⟨_, _, _, X, rfl, hx7, hX, ho.imp fun W h => h.1⟩
end Go.Proofs.YtcekpngkfldgkaaGreatDoor
