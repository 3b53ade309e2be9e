/- plane.Put of anything. -/
import Derived.Test.YtkighedghgcdjaaDoorPut2
namespace Go.Proofs.YtkighedghgcdjaaDoor
set_option linter.unusedVariables false
set_option linter.unusedSimpArgs false
open Go.RowKit Go.Extern.Stop Go.Stop Go.Extern

def putV (W H : Int) (zs : List Int) (x y n : Int) (bs : List Int) : List Int := match putAns W H zs x y n bs with
  | none => putRow W zs x y n bs
  | some _ => []
def putS (W H : Int) (zs : List Int) (x y n : Int) (bs : List Int) (s : Int) : Int := match putAns W H zs x y n bs with
  | none => s
  | some _ => 0
theorem put_any (W H x y i : Int) (zs bs : List Int) (a b : Option Addr) (n m cap cb : Nat) (w : World) (h : Ints w (.slice a n cap) zs) (hb : Ints w (.slice b m cb) bs) :
    Calls Tryd.prog 33 #[.agg #[.int .i64 W, .int .i64 H, .slice a n cap], .int .i64 x, .int .i64 y, .int .i64 i, .slice b m cb] w
      (OPost w (putS W H zs x y i bs W) (putS W H zs x y i bs H) (putV W H zs x y i bs) (putAns W H zs x y i bs)) := by
  cases hf : putAns W H zs x y i bs with
  | some f =>
    have e1 : putV W H zs x y i bs = [] := by unfold putV; rw [hf]
    have e2 : ∀ s, putS W H zs x y i bs s = 0 := fun s => by unfold putS; rw [hf]
    rw [e1, e2, e2, ← hf]
    exact put_no W H x y i zs bs a b n m cap cb w h hb f hf
  | none =>
    have e1 : putV W H zs x y i bs = putRow W zs x y i bs := by unfold putV; rw [hf]
    have e2 : ∀ s, putS W H zs x y i bs s = s := fun s => by unfold putS; rw [hf]
    rw [e1, e2, e2]
    obtain ⟨h1, h2, h3, h4⟩ := putAns_none hf
    obtain ⟨l1, l2, l3, l4, l5, l6⟩ := h2
    have b1 := sideB_true h1.1
    obtain ⟨Wn, rfl⟩ : ∃ k : Nat, W = (k : Int) := ⟨W.toNat, by omega⟩
    obtain ⟨X, rfl⟩ : ∃ k : Nat, x = (k : Int) := ⟨x.toNat, by omega⟩
    obtain ⟨Y, rfl⟩ : ∃ k : Nat, y = (k : Int) := ⟨y.toNat, by omega⟩
    obtain ⟨N, rfl⟩ : ∃ k : Nat, i = (k : Int) := ⟨i.toNat, by omega⟩
    exact put_ok Wn X Y N H zs bs a b n m cap cb w h hb h1 (by omega) (by omega) (by omega) (by have h5 : ((bs.length : Nat) : Int) = ((N * N : Nat) : Int) := by rw [h3]; push_cast; rfl
                                                                                                omega) h4
end Go.Proofs.YtkighedghgcdjaaDoor
