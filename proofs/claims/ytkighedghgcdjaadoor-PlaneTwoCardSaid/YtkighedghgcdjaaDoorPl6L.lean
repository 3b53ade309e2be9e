/- kinlaw6.PlaneTwo, any input. -/
import Derived.Test.YtkighedghgcdjaaDoorPl6
namespace Go.Proofs.YtkighedghgcdjaaDoor
set_option linter.unusedVariables false
set_option linter.unusedSimpArgs false
open Go.RowKit Go.Extern.Stop Go.Stop Go.Extern

theorem two_law (W H x y u v i : Int) (zs bs cs : List Int) (va vb vc : Value) (w : World) (hg : EtIs w) (hra : Row w va zs.length (zs.map (Value.int .i64))) (hrb : Row w vb bs.length (bs.map (Value.int .i64))) (hrc : Row w vc cs.length (cs.map (Value.int .i64))) :
    Calls Tryd.prog 8 #[.agg #[.int .i64 W, .int .i64 H, va], .int .i64 x, .int .i64 y, .int .i64 u, .int .i64 v, .int .i64 i, vb, vc] w fun e w' => e = .returned (.bool true) ∧ Ext w w' := by
  by_cases hn : 5000 < zs.length
  · obtain ⟨a, ca, rfl⟩ := hra.form
    obtain ⟨b, cb, rfl⟩ := hrb.form
    obtain ⟨c, cc, rfl⟩ := hrc.form
    exact two_long W H x y u v i a b c _ _ _ ca cb cc w hg hn
  · have h : Ints w va zs := ⟨hra, by omega⟩
    obtain ⟨a, ca, rfl⟩ := h.form
    obtain ⟨b, cb, rfl⟩ := hrb.form
    obtain ⟨c, cc, rfl⟩ := hrc.form
    have hn' : ¬ 5000 < zs.length := hn
    by_cases h0 : 5000 < bs.length
    · exact two_c0 W H x y u v i a b c _ _ _ ca cb cc w hg hn' h0
    by_cases h1 : 5000 < cs.length
    · exact two_c1 W H x y u v i a b c _ _ _ ca cb cc w hg hn' h0 h1
    by_cases h2 : i < 1
    · exact two_c2 W H x y u v i a b c _ _ _ ca cb cc w hg hn' h0 h1 h2
    by_cases h3 : 8 < i
    · exact two_c3 W H x y u v i a b c _ _ _ ca cb cc w hg hn' h0 h1 h2 h3
    by_cases h4 : x < 0
    · exact two_c4 W H x y u v i a b c _ _ _ ca cb cc w hg hn' h0 h1 h2 h3 h4
    by_cases h5 : y < 0
    · exact two_c5 W H x y u v i a b c _ _ _ ca cb cc w hg hn' h0 h1 h2 h3 h4 h5
    by_cases h6 : u < 0
    · exact two_c6 W H x y u v i a b c _ _ _ ca cb cc w hg hn' h0 h1 h2 h3 h4 h5 h6
    by_cases h7 : v < 0
    · exact two_c7 W H x y u v i a b c _ _ _ ca cb cc w hg hn' h0 h1 h2 h3 h4 h5 h6 h7
    by_cases h8 : 32 < x
    · exact two_c8 W H x y u v i a b c _ _ _ ca cb cc w hg hn' h0 h1 h2 h3 h4 h5 h6 h7 h8
    by_cases h9 : 32 < y
    · exact two_c9 W H x y u v i a b c _ _ _ ca cb cc w hg hn' h0 h1 h2 h3 h4 h5 h6 h7 h8 h9
    by_cases h10 : 32 < u
    · exact two_c10 W H x y u v i a b c _ _ _ ca cb cc w hg hn' h0 h1 h2 h3 h4 h5 h6 h7 h8 h9 h10
    by_cases h11 : 32 < v
    · exact two_c11 W H x y u v i a b c _ _ _ ca cb cc w hg hn' h0 h1 h2 h3 h4 h5 h6 h7 h8 h9 h10 h11
    have hb : Ints w (.slice b bs.length cb) bs := ⟨hrb, by omega⟩
    have hc : Ints w (.slice c cs.length cc) cs := ⟨hrc, by omega⟩
    have d1 := fun a n cap w (k1 : Ints w (.slice a n cap) zs) (k2 : Ints w (.slice b bs.length cb) bs) => putF_any W H x y i zs bs a b n _ cap cb w k1 k2
    have d2 := fun a n cap w (k1 : Ints w (.slice a n cap) zs) (k2 : Ints w (.slice c cs.length cc) cs) => putF_any W H u v i zs cs a c n _ cap cc w k1 k2
    cases hf : putAns W H zs x y i bs with
    | some f =>
      rw [hf] at d1
      exact two_f1 W H x y u v i _ _ _ _ zs bs cs _ _ a b c _ _ _ ca cb cc w hg h hb hc hn' h0 h1 h2 h3 h4 h5 h6 h7 h8 h9 h10 h11 f _ d1 d2
    | none =>
      cases hk : putAns W H zs u v i cs with
      | some f =>
        rw [hf] at d1
        rw [hk] at d2
        exact two_f2 W H x y u v i _ _ _ _ zs bs cs _ _ a b c _ _ _ ca cb cc w hg h hb hc hn' h0 h1 h2 h3 h4 h5 h6 h7 h8 h9 h10 h11 f d1 d2
      | none =>
        by_cases hd : u < x + i ∧ x < u + i ∧ v < y + i ∧ y < v + i
        · rw [hf] at d1
          rw [hk] at d2
          exact two_over W H x y u v i _ _ _ _ zs bs cs _ _ a b c _ _ _ ca cb cc w hg h hb hc hn' h0 h1 h2 h3 h4 h5 h6 h7 h8 h9 h10 h11 hd.1 hd.2.1 hd.2.2.1 hd.2.2.2 d1 d2
        · have on1 := put_on hf hk
          have on2 := put_on hk hf
          have on3 := put_on hf hf
          have d3 := fun a n cap w (k1 : Ints w (.slice a n cap) (putRow W zs x y i bs)) (k2 : Ints w (.slice c cs.length cc) cs) => putF_ok W H u v i _ cs on1 a c n _ cap cc w k1 k2
          have d4 := fun a n cap w (k1 : Ints w (.slice a n cap) (putRow W zs u v i cs)) (k2 : Ints w (.slice b bs.length cb) bs) => putF_ok W H x y i _ bs on2 a b n _ cap cb w k1 k2
          have d5 := fun a n cap w (k1 : Ints w (.slice a n cap) (putRow W zs x y i bs)) (k2 : Ints w (.slice b bs.length cb) bs) => putF_ok W H x y i _ bs on3 a b n _ cap cb w k1 k2
          have s3 := same_self (put_may on2)
          have s1 := same_self (put_may hf)
          rw [put_two hf hk hd] at d3
          rw [put_twice] at d5
          exact two_walk W H x y u v i zs bs cs _ _ _ a b c _ _ _ ca cb cc w hg h hb hc hn' h0 h1 h2 h3 h4 h5 h6 h7 h8 h9 h10 h11 hd
            (fun a n cap w k1 k2 => putF_ok W H x y i zs bs hf a b n _ cap cb w k1 k2) (fun a n cap w k1 k2 => putF_ok W H u v i zs cs hk a c n _ cap cc w k1 k2) d3 d4 d5 s3 s1
end Go.Proofs.YtkighedghgcdjaaDoor
