/- kinlaw6.PlaneBack, any input. -/
import Derived.Test.YtkighedghgcdjaaDoorPl5
namespace Go.Proofs.YtkighedghgcdjaaDoor
set_option linter.unusedVariables false
set_option linter.unusedSimpArgs false
open Go.RowKit Go.Extern.Stop Go.Stop Go.Extern

theorem back_law (W H x y i : Int) (zs bs : List Int) (va vb : Value) (w : World) (hg : EtIs w) (hra : Row w va zs.length (zs.map (Value.int .i64))) (hrb : Row w vb bs.length (bs.map (Value.int .i64))) :
    Calls Tryd.prog 6 #[.agg #[.int .i64 W, .int .i64 H, va], .int .i64 x, .int .i64 y, .int .i64 i, vb] w fun e w' => e = .returned (.bool true) ∧ Ext w w' := by
  by_cases h1 : 5000 < zs.length
  · obtain ⟨a, ca, rfl⟩ := hra.form
    obtain ⟨b, cb, rfl⟩ := hrb.form
    exact back_long W H x y i a b _ _ ca cb w hg (Or.inl h1)
  · by_cases h2 : 5000 < bs.length
    · obtain ⟨a, ca, rfl⟩ := hra.form
      obtain ⟨b, cb, rfl⟩ := hrb.form
      exact back_long W H x y i a b _ _ ca cb w hg (Or.inr ⟨h1, h2⟩)
    · have ha : Ints w va zs := ⟨hra, by omega⟩
      have hb : Ints w vb bs := ⟨hrb, by omega⟩
      obtain ⟨a, ca, rfl⟩ := ha.form
      obtain ⟨b, cb, rfl⟩ := hb.form
      have d1 := fun w (k1 : Ints w (.slice a zs.length ca) zs) (k2 : Ints w (.slice b bs.length cb) bs) => (put_any W H x y i zs bs a b _ _ ca cb w k1 k2).mono fun _ _ k => k.fpb
      cases hf : putAns W H zs x y i bs with
      | some f =>
        have e1 : putV W H zs x y i bs = [] := by unfold putV; rw [hf]
        rw [hf, e1] at d1
        exact back_no W H x y i _ _ zs bs f a b _ _ ca cb w hg ha hb h1 h2 d1
      | none =>
        have e1 : putV W H zs x y i bs = putRow W zs x y i bs := by unfold putV; rw [hf]
        have e2 : ∀ s, putS W H zs x y i bs s = s := fun s => by unfold putS; rw [hf]
        rw [e1, e2, e2, hf] at d1
        have hm := put_may hf
        obtain ⟨k1, k2, k3, k4⟩ := putAns_none hf
        obtain ⟨l1, l2, l3, l4, l5, l6⟩ := k2
        have bW := sideB_true k1.1
        have bH := sideB_true k1.2.1
        exact back_ok W H x y i zs bs (putRow W zs x y i bs) a b _ _ ca cb w hg ha hb h1 h2 ⟨bW.1, bW.2.1⟩ ⟨bH.1, bH.2.1⟩ ⟨l1, l2⟩ ⟨l3, l4⟩ ⟨l5, l6⟩ d1
          (fun a n cap w k => by have := may_any W H _ a n cap w k; rwa [decide_eq_true hm] at this)
          (fun a n cap w k => by have := get_any W H x y i _ a n cap w k; rwa [put_get hf] at this)
          (fun p q hp hq ho => put_other hf p q hp hq ho)
end Go.Proofs.YtkighedghgcdjaaDoor
