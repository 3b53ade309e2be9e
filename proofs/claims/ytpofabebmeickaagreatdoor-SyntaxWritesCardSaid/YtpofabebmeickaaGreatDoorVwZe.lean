/- Contracts of this seat: Px4, Pf1, Pc1, Py1, Py2, Py3, Pw1. -/
import Derived.Test.YtpofabebmeickaaGreatDoorVwZd
import Derived.Test.YtpofabebmeickaaGreatDoorVwPa7
import Derived.Test.YtpofabebmeickaaGreatDoorVwZb
import Derived.BigQuiet
import Derived.Deep.QuietTactic
import Derived.BigRegion
/- kinref12.Encoder's End: its contract over this seat's translation. -/
namespace Go.Proofs.YtpofabebmeickaaGreatDoor
set_option linter.unusedVariables false
set_option linter.unusedSimpArgs false
open Go.RowKit Go.Extern.Stop Go.Stop Go.Extern

theorem Bys.uptoX {w : World} {a : Option Addr} {n cap : Nat} {bs : List Nat} (h : Bys w (.slice a n cap) bs) {k : Nat} (hk : k ≤ n) : Bys w (.slice a k cap) (bs.take k) := by
  have hl := h.len
  obtain ⟨⟨a', cap', e, h1, h2, h3, h4⟩, hb, hm⟩ := h
  simp only [Value.slice.injEq] at e
  obtain ⟨rfl, -, rfl⟩ := e
  have ht : (bs.take k).length = k := by rw [List.length_take]; omega
  refine ⟨⟨a, cap, by rw [ht], by rw [ht]; omega, h2, fun h0 => h3 (by rw [ht] at h0; omega), fun g off ha j u hu => ?_⟩, fun x hx => hb x (List.mem_of_mem_take hx), by rw [ht]; omega⟩
  rw [List.getElem?_map, List.getElem?_take] at hu
  split at hu
  · exact h4 g off ha j u (by rw [List.getElem?_map]; exact hu)
  · cases hu
def XvPost (w : World) (bs : List Nat) (e : Ending) (w' : World) : Prop := ∃ u, e = .returned u ∧ Bys w' u bs ∧ w'.ownsRow w.heap.size 5 1 u bs.length (byC bs) ∧ Ext w w'
set_option maxRecDepth 20000 in
set_option maxHeartbeats 4000000 in
theorem xeend_any (b : Nat) (B : Nat → Prop) (N : Nat) (s : Xe) (w : World) (h : XeAt w b B s) (hk : okX' N s) (hN : N ≤ 4500000) : Calls Tryz.prog 18 #[.pointer (some ⟨b, 0, none⟩)] w (XvPost w (trimE s.bs)) := by
  obtain ⟨v, hB, hR⟩ := h
  obtain ⟨L, r⟩ := s
  obtain ⟨k1, k2, k3⟩ := hk
  have k1 : L.length ≤ N := k1
  have k3 : ∀ x ∈ L, x < 256 := k3
  have hB : XeBox w b v r := hB
  have hR : EcRow w b B v L := hR
  show Calls Tryz.prog 18 _ w (XvPost w (trimE L))
  have hY := Bys.of_owns hR.1 k3 (by omega)
  obtain ⟨a, c, rfl⟩ := hR.form
  obtain ⟨n, hn⟩ : ∃ n, L.length = n := ⟨_, rfl⟩
  obtain ⟨⟨c0, c1⟩, f0, f1⟩ := hB
  rw [hn] at c0 k1 hY
  have hn2 : n ≤ 4500000 := by omega
  have HY := Lib.hid hY
  have HN := Lib.hid hn
  have hnc : n ≤ c := by
    obtain ⟨a', cap', e, h1, -⟩ := hY.1
    simp only [Value.slice.injEq] at e
    obtain ⟨-, -, rfl⟩ := e
    omega
  have HT0 : Hid (trimE L = trimE (L.take n)) := by show _ = _; rw [List.take_of_length_le (by omega)]
  have HK3 := Lib.hid k3
  have HR := Lib.hid hR
  rw [hn] at HR
  clear hR k1 k2 k3 hY hN c1 f0 f1 hn
  go_enter Tryz.func18, Tryz.ntmps18
  go_wp2_with fail
  go_loop [3] (fun u => ∃ k : Nat, k ≤ n ∧ u = .int .i64 (k : Int) ∧ Hid (trimE L = trimE (L.take k))) (fun u => (intOf u).toNat)
  case atStart => exact ⟨n, Nat.le_refl _, rfl, HT0.out⟩
  case round =>
    clear HT0
    obtain ⟨k, hk, rfl, HT⟩ := hrel
    have UC := Lib.hid (cpb_any _ _ w (HY.out.uptoX hk))
    cases k with
    | zero =>
      have HZ : Hid (trimE L = L.take 0) := by show _ = _; rw [HT.out]; rfl
      clear HT HR
      go_wp2_with fail
      refine (UC.out).mono ?_; rintro e w7 ⟨u, rfl, ho7, hx7⟩
      have HB7 := Lib.hid (Bys.of_owns ho7 (fun x hx => HK3.out x (List.mem_of_mem_take hx)) (by rw [List.length_take]; omega))
      go_wp2
      go_ret
      exact ⟨_, rfl, by rw [HZ.out]; exact HB7.out, by rw [HZ.out]; exact ho7, hx7⟩
    | succ k =>
      have hkl : k < L.length := by rw [HN.out]; exact hk
      obtain ⟨x, hx⟩ : ∃ x, L[k]? = some x := ⟨_, List.getElem?_eq_getElem hkl⟩
      obtain ⟨g, cap, e, -, -, cg, fg⟩ := er_cell HR.out hx
      simp only [Value.slice.injEq] at e
      obtain ⟨rfl, -, rfl⟩ := e
      have htk : L.take (k + 1) = L.take k ++ [x] := by
        rw [List.take_succ_eq_append_getElem hkl]
        rw [List.getElem?_eq_getElem hkl] at hx
        rw [Option.some.inj hx]
      have x1 : (0 : Int) < ((k + 1 : Nat) : Int) := by omega
      have s1 : IntKind.i64.wrap (((k + 1 : Nat) : Int) - 1) = (k : Int) := by rw [IntKind.wrap_i64]; omega
      have x2 : (0 : Int) ≤ (k : Int) := by omega
      have x3 : (k : Int) < (n : Int) := by omega
      by_cases h0 : x = 0
      · subst h0
        have HT2 : Hid (trimE L = trimE (L.take k)) := by show _ = _; rw [HT.out, htk, trimE_zero]
        clear HT HR htk hx UC hkl
        obtain ⟨K, hK⟩ : ∃ K, k + 1 = K := ⟨_, rfl⟩
        rw [hK] at s1 x1 ⊢
        go_wp2
        go_round
        case rel => exact ⟨k, by omega, rfl, HT2.out⟩
        case measure => simp [intOf]; omega
      · have t1 : ((x : Int) == 0) = false := by rw [beq_eq_false_iff_ne]; omega
        have HZ : Hid (trimE L = L.take (k + 1)) := by show _ = _; rw [HT.out, htk, trimE_last _ h0]
        obtain ⟨K, hK⟩ : ∃ K, k + 1 = K := ⟨_, rfl⟩
        clear HT HR htk hx hkl
        rw [hK] at s1 x1 UC HZ hk ⊢
        have x4 : (K : Int) ≤ (c : Int) := by omega
        have x5 : (0 : Int) ≤ (K : Int) := by omega
        have HKn := Lib.hid hk
        clear hK hk
        go_wp2_with fail
        refine (UC.out).mono ?_; rintro e w7 ⟨u, rfl, ho7, hx7⟩
        have HB7 := Lib.hid (Bys.of_owns ho7 (fun x hx => HK3.out x (List.mem_of_mem_take hx)) (by rw [List.length_take]; have := HKn.out; omega))
        go_wp2
        go_ret
        exact ⟨_, rfl, by rw [HZ.out]; exact HB7.out, by rw [HZ.out]; exact ho7, hx7⟩
end Go.Proofs.YtpofabebmeickaaGreatDoor

/- kinlaw12.first; an encoder and a decoder beside each other. -/
namespace Go.Proofs.YtpofabebmeickaaGreatDoor
set_option linter.unusedVariables false
set_option linter.unusedSimpArgs false
open Go.RowKit Go.Extern.Stop Go.Stop Go.Extern

theorem EcAt.kp {w w' : World} {b d : Nat} {B : Nat → Prop} {s : Ec} (h : EcAt w b B s) (k : Kp d w w') (hd : b ≠ d) (hdB : B d) : EcAt w' b B s := by
  obtain ⟨v, h1, h2, h3, h4, h5⟩ := h
  refine ⟨v, h1.same (k.block h1.lt hd), ?_, h3, h4, fun g hg => Nat.lt_of_lt_of_le (h5 g hg) k.size⟩
  exact h2.kept (row := some d) k (.inr (fun e => h3 _ e hdB))
theorem s12 : trimE (allE (codE (codE newE 1024 false) 1024 true)) = [63, 255, 252] ∧ lenE (codE (codE newE 1024 false) 1024 true) = 4 ∧ chance 1024 = true ∧ chance 2048 = false := by decide +kernel
theorem d12 : upD (newD []) ((newD []).wid / 2) = false ∧ ovrD [] (parD [] (newD []) ((newD []).wid / 2)) = 4 := by decide +kernel
end Go.Proofs.YtpofabebmeickaaGreatDoor

/- The landed encoder and the document's beside each other: contracts. -/
namespace Go.Proofs.YtpofabebmeickaaGreatDoor
set_option linter.unusedVariables false
set_option linter.unusedSimpArgs false
open Go.RowKit Go.Extern.Stop Go.Stop Go.Extern

theorem own_block {w w' : World} {base : Nat} {e : TypeId} {size n : Nat} {v : Value} {xs : List Value} (h : w.ownsRow base e size v n xs) (k : ∀ g, v.ownBlock = some g → w'.heap[g]? = w.heap[g]?) : w'.ownsRow base e size v n xs := by
  obtain ⟨h1, h2⟩ := h
  refine ⟨h1, ?_⟩
  rcases h2 with h2 | ⟨g, cap, cur, rfl, hg, hh, r⟩
  · exact .inl h2
  · exact .inr ⟨g, cap, cur, rfl, hg, (k g rfl).trans hh, r⟩
end Go.Proofs.YtpofabebmeickaaGreatDoor

/- A document's decoder of bits (kinref12): plain; next: its contract over this seat's translation. -/
namespace Go.Proofs.YtpofabebmeickaaGreatDoor
set_option linter.unusedVariables false
set_option linter.unusedSimpArgs false
open Go.RowKit Go.Extern.Stop Go.Stop Go.Extern

structure Xc where
  pos : Nat
  dd : Nat
  rr : Nat
section
variable {w w' : World} {b : Nat} {v : Value} {s : Xc}
end
end Go.Proofs.YtpofabebmeickaaGreatDoor

/- kinref12's decoder: narrows, Flat, Code, Over: contracts over this seat's translation. -/
namespace Go.Proofs.YtpofabebmeickaaGreatDoor
set_option linter.unusedVariables false
set_option linter.unusedSimpArgs false
open Go.RowKit Go.Extern.Stop Go.Stop Go.Extern

end Go.Proofs.YtpofabebmeickaaGreatDoor

/- kinref12's decoder: Code, NewDecoder: contracts over this seat's translation; the two decoders side by side. -/
namespace Go.Proofs.YtpofabebmeickaaGreatDoor
set_option linter.unusedVariables false
set_option linter.unusedSimpArgs false
open Go.RowKit Go.Extern.Stop Go.Stop Go.Extern

theorem Kp.setNew {b : Nat} {u v : World} (h : Kp b u v) {p : Addr} (hp : u.heap.size ≤ p.block) (x : Value) : Kp b u (v.setCell p x) :=
  ⟨show v.os = u.os from World.grownBy.os h, show v.tape = u.tape from World.grownBy.tape h, show v.output = u.output from World.grownBy.output h, by simpa using h.size, fun i hi hn => (Below.heap_setCell v p x i (by omega)).trans (World.grownBy.block h i hi hn)⟩
theorem ResAt.kp {w w' : World} {B b : Nat} (h : ResAt w B) (k : Kp b w w') (hb : B ≠ b) : ResAt w' B := by
  obtain ⟨h0, h1, h2, h3⟩ := h
  have e := k.block (Ext.lt (p := ⟨B, 0, none⟩) h0) hb
  exact ⟨(World.cell?_of_block (a := ⟨B, 0, none⟩) e).trans h0, (World.cell?_of_block (a := ⟨B, 1, none⟩) e).trans h1, (World.frozen?_of_block (a := ⟨B, 0, none⟩) e).trans h2, (World.frozen?_of_block (a := ⟨B, 1, none⟩) e).trans h3⟩
end Go.Proofs.YtpofabebmeickaaGreatDoor

/- The landed decoder and the document's, step by step: plain. -/
namespace Go.Proofs.YtpofabebmeickaaGreatDoor
set_option linter.unusedVariables false
set_option linter.unusedSimpArgs false
open Go.RowKit Go.Extern.Stop Go.Stop Go.Extern

end Go.Proofs.YtpofabebmeickaaGreatDoor

