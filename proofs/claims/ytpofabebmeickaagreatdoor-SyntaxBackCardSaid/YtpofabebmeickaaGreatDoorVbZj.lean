/- Contracts of this seat: Md5, Md6, Mdb. -/
import Derived.Test.YtpofabebmeickaaGreatDoorVbMd4
import Derived.Test.YtpofabebmeickaaGreatDoorVbZb
import Derived.Test.YtpofabebmeickaaGreatDoorVbZi
/- kinlaw13.asks with a writer and with a reader: contracts over this seat's translation. -/
namespace Go.Proofs.YtpofabebmeickaaGreatDoor
set_option linter.unusedVariables false
set_option linter.unusedSimpArgs false
open Go.RowKit Go.Extern.Stop Go.Stop Go.Extern

end Go.Proofs.YtpofabebmeickaaGreatDoor

/- Objects beside each other; a list of numbers of the call's own; kinlaw13.first. -/
namespace Go.Proofs.YtpofabebmeickaaGreatDoor
set_option linter.unusedVariables false
set_option linter.unusedSimpArgs false
open Go.RowKit Go.Extern.Stop Go.Stop Go.Extern

theorem WrF.obj (a : Nat) : Obj (WrF a) := ⟨fun h => h.lt, fun h => h.same⟩
theorem RdF.obj (a : Nat) (bs : List Nat) : Obj (RdF a bs) := ⟨fun h => h.lt, fun h => h.same⟩
/-- numbers in a row of the call's own -/
def TlF (w : World) (F : Nat → Prop) (p : Value × List Int) : Prop := w.ownsRow 0 3 1 p.1 p.2.length (p.2.map (Value.int .i64)) ∧ ∀ k, F k ↔ p.1.ownBlock = some k
theorem TlF.obj : Obj TlF := ⟨fun h k hk => (h.1.lt k ((h.2 k).1 hk)).2, fun h k => ⟨own_block h.1 (fun g hg => k g ((h.2 g).2 hg)), h.2⟩⟩
theorem TlF.nil (w : World) : TlF w (fun _ => False) (.slice none 0 0, []) := ⟨World.ownsRow_nil _ _ _ _, fun k => ⟨False.elim, fun h => by simp [Value.ownBlock] at h⟩⟩
theorem TlF.form {w : World} {F : Nat → Prop} {v : Value} {L : List Int} (h : TlF w F (v, L)) : ∃ a c, v = .slice a L.length c := by
  rcases h.1.2 with ⟨e, h0⟩ | ⟨g, cap, cur, e, -⟩
  · have e : v = .slice none 0 0 := e
    have h0 : L.length = 0 := h0
    exact ⟨none, 0, by rw [e, h0]⟩
  · exact ⟨_, _, e⟩
theorem TlF.cell {w : World} {F : Nat → Prop} {v : Value} {L : List Int} {q : Nat} {x : Int} (h : TlF w F (v, L)) (hx : L[q]? = some x) : ∃ g cap, v = .slice (some ⟨g, 0, none⟩) L.length cap ∧ w.cell? ⟨g, q, none⟩ = some (.int .i64 x) := by
  have hq : q < L.length := (List.getElem?_eq_some_iff.1 hx).1
  rcases id h.1.2 with ⟨-, h0⟩ | ⟨g, cap, cur, e, -⟩
  · have h0 : L.length = 0 := h0
    omega
  · have e : v = .slice (some ⟨g, 0, none⟩) L.length cap := e
    subst e
    have hc := h.1.cells (g := g) rfl q (.int .i64 x) (by simp [hx])
    have e2 : (⟨g, 0, none⟩ : Addr).add q = ⟨g, q, none⟩ := by unfold Addr.add; split <;> simp_all
    rw [e2] at hc
    exact ⟨g, cap, rfl, hc⟩
theorem push_tl {σ : Type} {A : World → (Nat → Prop) → σ → Prop} (oa : Obj A) {w0 : World} {ops : Array Oper} {rest : List Oper} {o : Oper} {a : Act} {Q : Exit → Act → World → Prop} {W : World} (hgd : o.guard = none) (s y : Operand) (t : TypeId)
    (ho : o.op = .call { callee := .builtin .append, args := #[s, y], argTypes := #[t, t] }) (ht : Tryz.prog.underlying t = some (.slice 3))
    (v : Value) (L : List Int) (n : Nat) (x : Int) (u : σ) (hn : L.length = n) (hs : a.eval s = v) (hU : Uno (Sep A TlF) w0 W (u, (v, L))) (hx : a.eval y = .slice (some ⟨W.heap.size, 0, none⟩) 1 1) (hn9 : n ≤ 1000000000)
    (h : ∀ g cap w', Uno (Sep A TlF) w0 w' (u, (.slice (some ⟨g, 0, none⟩) (n + 1) cap, L ++ [x])) → wpList Tryz.prog ops Q rest (a.put o.dst (.slice (some ⟨g, 0, none⟩) (n + 1) cap)) w') :
    wpList Tryz.prog ops Q (o :: rest) a (W.alloc (.cells #[.int .i64 x] 3)) := by
  obtain ⟨i0, hi, hz0, hz1, hz2⟩ := info_parts infoInt
  obtain ⟨F, ⟨F1, F2, k1, k2, k3, k4⟩, k5, k6⟩ := hU
  have hown : W.ownsRow 0 3 1 v n (L.map (Value.int .i64)) := by have := k2.1; rw [hn] at this; exact this
  have hown2 : ∀ k, F2 k ↔ v.ownBlock = some k := k2.2
  refine wpList_append_own_at _ hgd s y t ho 0 3 i0 (.int .i64 0) 1 8 ht hi hz0 hz1 hz2 rfl (by decide) v n _ hs (hown.alloc _) ⟨W.heap.size, 0, none⟩ 1 1 [.int .i64 x] hx rfl (cell_one_new _ _ _) (one_int _) (by unfold maxLen; omega) (by omega) (Nat.zero_le _) ?_
  intro v' w' h1 h2 _ hat
  have g := World.grownBy_alloc W (.cells #[.int .i64 x] 3) v.ownBlock
  have hg : W.grownBy w' v.ownBlock := ⟨h2.os.trans g.os, h2.tape.trans g.tape, h2.output.trans g.output, Nat.le_trans g.size h2.size, fun k hk hne => (h2.block k (Nat.lt_of_lt_of_le hk g.size) hne).trans (g.block k hk hne)⟩
  obtain ⟨gg, cap, rfl⟩ : ∃ gg cap, v' = .slice (some ⟨gg, 0, none⟩) (n + 1) cap := by
    rcases h1.2 with ⟨-, h0⟩ | ⟨gg, cap, cur, e, -⟩
    · omega
    · exact ⟨gg, cap, e⟩
  have hf : v.ownBlock = some gg ∨ W.heap.size ≤ gg := by
    rcases hat with e | e
    · exact .inl (e.symm.trans rfl)
    · right
      have e : some gg = _ := e
      have := Option.some.inj e
      rw [this]
      exact g.size
  have st : Step F2 W (fun k => k = gg) w' := ⟨⟨⟨hg.os, hg.tape, hg.output⟩, hg.size, fun k hk hn => hg.block k hk (fun e => hn ((hown2 k).2 e.symm))⟩, fun k hk => by
    subst hk
    exact hf.imp (fun e => (hown2 _).2 e) id⟩
  obtain ⟨j1, j2, j3⟩ := st.apart (oa.lt k1) (fun k hk hf => k3 k hf hk)
  refine h gg cap w' ⟨fun k => F1 k ∨ k = gg, ⟨F1, fun k => k = gg, oa.same k1 j1, ⟨?_, fun k => ⟨fun e => by rw [e]; rfl, fun e => ?_⟩⟩, fun k hk hf => j2 k hf hk, fun _ => Iff.rfl⟩, ?_⟩
  · show w'.ownsRow _ _ _ _ (L ++ [x]).length _
    rw [List.length_append, hn, List.map_append]
    exact h1
  · have e : some gg = some k := e
    exact (Option.some.inj e).symm
  · have hF2 : ∀ k, F2 k → w0.heap.size ≤ k := fun k hk => k6 k ((k4 k).2 (.inr hk))
    obtain ⟨m1, m2⟩ := st.out k5 hF2
    refine ⟨m1, ?_⟩
    rintro k (hk | hk)
    · exact k6 k ((k4 k).2 (.inl hk))
    · exact m2 k hk
/-- what the chapter's examples fix -/
def f13 : Ms Ec := (bitM mE ⟨ch0, newE⟩ 0 false).2
def g13 : Ms Ec := (bitM mE f13 0 true).2
def h13 : Ms Ec := (kindM mE g13 7).2
theorem okn13 : okS okEm 0 ⟨ch0, newE⟩ := ⟨ch0_ok, newE_ok, by decide⟩
theorem okd13 {bs : List Nat} (hb : ∀ x ∈ bs, x < 256) : okS okDm 4 ⟨ch0, newD bs⟩ := ⟨ch0_ok, (newD_ok hb).1, by rw [(newD_ok hb).2.1]; decide⟩
end Go.Proofs.YtpofabebmeickaaGreatDoor

/- What a model's writer was told a reader tells: plain. -/
namespace Go.Proofs.YtpofabebmeickaaGreatDoor
set_option linter.unusedVariables false
set_option linter.unusedSimpArgs false
open Go.RowKit Go.Extern.Stop Go.Stop Go.Extern

theorem bk_newB {bs : List Nat} (hb : ∀ x ∈ bs, x < 256) {n : Nat} (hi : inE (pn bs n) n newE) : bkI bs newE (newD bs) := by
  have e0 : vE newE = 0 := by decide +kernel
  have e1 : lenE newE = 4 := by decide +kernel
  have hp : pn bs 4 < 4294967295 := by
    have := (in_p hb hi).2
    rw [e0, e1] at this
    have e2 : newE.wid = 4294967295 := rfl
    omega
  obtain ⟨k1, k2⟩ := mv_pn hb 4 (Nat.le_refl _)
  refine ⟨by rw [e1]; exact k1, (newD_ok hb).2.1, ?_, ?_⟩
  · show decide (4294967295 ≤ (mvN bs 4).num) = false
    rw [k2, decide_eq_false_iff_not]
    omega
  · rw [e0, e1, Nat.add_zero]
    exact k2
/-- a writer's state that may be; the number lies within it -/
def gS (s : Ms Ec) : Prop := chI s.ch ∧ hI s.co ∧ 16777216 ≤ s.co.wid
def nS (X n : Nat) (s : Ms Ec) : Prop := inE X n s.co
/-- the width of a bit's lower part -/
theorem bit_w {s : Ms Ec} (g : gS s) (c : Int) (b : Bool) : ∃ w, (1 ≤ w ∧ w < s.co.wid) ∧ (bitM mE s c b).2.co = parE s.co w b ∧ (bitM mE s c b).1 = b ∧
    ∀ (bs : List Nat) (t : Ms Dc) (d : Bool), t.ch = s.ch → t.co.wid = s.co.wid → (bitM (mD bs) t c d).2.co = parD bs t.co w ∧ (bitM (mD bs) t c d).1 = upD t.co w ∧ (upD t.co w = b → (bitM (mD bs) t c d).2.ch = (bitM mE s c b).2.ch) := by
  obtain ⟨g1, g2, g3⟩ := g
  unfold bitM
  cases hc : ctxM c
  · refine ⟨s.co.wid / 2, ⟨by omega, by omega⟩, rfl, rfl, fun bs t d h1 h2 => ?_⟩
    refine ⟨?_, ?_, fun _ => h1⟩
    · show parD bs t.co (t.co.wid / 2) = _
      rw [h2]
    · show upD t.co (t.co.wid / 2) = _
      rw [h2]
  · obtain ⟨p, hp⟩ : ∃ p, s.ch c.toNat = p := ⟨_, rfl⟩
    obtain ⟨p1, p2⟩ := g1 c.toNat
    rw [hp] at p1 p2
    have hch := chance_ok p1 p2
    have hpt : ((p : Int)).toNat = p := Int.toNat_natCast p
    have he : ∀ u : Ec, codE u (p : Int) b = parE u (u.wid / 2048 * p) b := fun u => by unfold codE; rw [hch, hpt]; rfl
    have hd : ∀ (bs : List Nat) (u : Dc), codD bs u (p : Int) = parD bs u (u.wid / 2048 * p) := fun bs u => by unfold codD; rw [hch, hpt]; rfl
    have hu : ∀ u : Dc, codU u (p : Int) = upD u (u.wid / 2048 * p) := fun u => by unfold codU; rw [hch, hpt]; rfl
    refine ⟨s.co.wid / 2048 * p, part_of g3 (by omega) (by omega), ?_, rfl, fun bs t d h1 h2 => ?_⟩
    · show codE s.co (s.ch c.toNat : Int) b = _
      rw [hp, he]
    · refine ⟨?_, ?_, fun hv => ?_⟩
      · show codD bs t.co (t.ch c.toNat : Int) = _
        rw [h1, hp, hd, h2]
      · show codU t.co (t.ch c.toNat : Int) = _
        rw [h1, hp, hu, h2]
      · show setM t.ch c.toNat (lrnM (t.ch c.toNat) (codU t.co (t.ch c.toNat : Int))) = setM s.ch c.toNat (lrnM (s.ch c.toNat) b)
        rw [h1, hp, hu, h2, hv]
theorem fla_w {s : Ms Ec} (g : gS s) (b : Bool) : ∃ w, (1 ≤ w ∧ w < s.co.wid) ∧ (flaM mE s b).2.co = parE s.co w b ∧ (flaM mE s b).1 = b ∧
    ∀ (bs : List Nat) (t : Ms Dc) (d : Bool), t.ch = s.ch → t.co.wid = s.co.wid → (flaM (mD bs) t d).2.co = parD bs t.co w ∧ (flaM (mD bs) t d).1 = upD t.co w ∧ (upD t.co w = b → (flaM (mD bs) t d).2.ch = (flaM mE s b).2.ch) := by
  obtain ⟨g1, g2, g3⟩ := g
  refine ⟨s.co.wid / 2, ⟨by omega, by omega⟩, rfl, rfl, fun bs t d h1 h2 => ?_⟩
  refine ⟨?_, ?_, fun _ => h1⟩
  · show parD bs t.co (t.co.wid / 2) = _
    rw [h2]
  · show upD t.co (t.co.wid / 2) = _
    rw [h2]
theorem bit_g {s : Ms Ec} (g : gS s) (c : Int) (b : Bool) : gS (bitM mE s c b).2 ∧ (bitM mE s c b).1 = b := by
  obtain ⟨w, ⟨w1, w2⟩, h1, h2, -⟩ := bit_w g c b
  refine ⟨⟨?_, ?_, ?_⟩, h2⟩
  · unfold bitM
    split
    · exact g.1.set _ _
    · exact g.1
  · rw [h1]; exact hI_par g.2.1 w2
  · rw [h1]
    refine nrm_wide 3 ?_
    rw [midE_wid]
    show 16777216 ≤ _ * 16777216
    split <;> omega
theorem fla_g {s : Ms Ec} (g : gS s) (b : Bool) : gS (flaM mE s b).2 ∧ (flaM mE s b).1 = b := by
  obtain ⟨w, ⟨w1, w2⟩, h1, h2, -⟩ := fla_w g b
  refine ⟨⟨g.1, ?_, ?_⟩, h2⟩
  · rw [h1]; exact hI_par g.2.1 w2
  · rw [h1]
    refine nrm_wide 3 ?_
    rw [midE_wid]
    show 16777216 ≤ _ * 16777216
    split <;> omega
/-- writer and reader side by side -/
def wrI (bs : List Nat) (s : Ms Ec) (t : Ms Dc) : Prop := gS s ∧ t.ch = s.ch ∧ bkI bs s.co t.co
section
variable {X n : Nat}
theorem bit_n {s : Ms Ec} (g : gS s) {c : Int} {b : Bool} (h : nS X n (bitM mE s c b).2) : nS X n s := by
  obtain ⟨w, ⟨w1, w2⟩, h1, h2, -⟩ := bit_w g c b
  unfold nS at h
  rw [h1] at h
  exact (in_par g.2.1 w2 h).2
theorem fla_n {s : Ms Ec} (g : gS s) {b : Bool} (h : nS X n (flaM mE s b).2) : nS X n s := by
  obtain ⟨w, ⟨w1, w2⟩, h1, h2, -⟩ := fla_w g b
  unfold nS at h
  rw [h1] at h
  exact (in_par g.2.1 w2 h).2
end
section
variable {bs : List Nat} {n : Nat} (hb : ∀ x ∈ bs, x < 256)
include hb
theorem bit_b {s : Ms Ec} {t : Ms Dc} {c : Int} {b : Bool} (d : Bool) (h : wrI bs s t) (hn : nS (pn bs n) n (bitM mE s c b).2) : (bitM (mD bs) t c d).1 = (bitM mE s c b).1 ∧ wrI bs (bitM mE s c b).2 (bitM (mD bs) t c d).2 := by
  obtain ⟨g, h1, h2⟩ := h
  obtain ⟨w, ⟨w1, w2⟩, e1, e2, e3⟩ := bit_w g c b
  obtain ⟨f1, f2, f3⟩ := e3 bs t d h1 h2.2.1
  unfold nS at hn
  rw [e1] at hn
  obtain ⟨k1, k2⟩ := bk_par hb g.2.1 w2 hn h2
  refine ⟨by rw [f2, e2, k2], (bit_g g c b).1, f3 k2, ?_⟩
  rw [e1, f1]
  exact k1
theorem fla_b {s : Ms Ec} {t : Ms Dc} {b : Bool} (d : Bool) (h : wrI bs s t) (hn : nS (pn bs n) n (flaM mE s b).2) : (flaM (mD bs) t d).1 = (flaM mE s b).1 ∧ wrI bs (flaM mE s b).2 (flaM (mD bs) t d).2 := by
  obtain ⟨g, h1, h2⟩ := h
  obtain ⟨w, ⟨w1, w2⟩, e1, e2, e3⟩ := fla_w g b
  obtain ⟨f1, f2, f3⟩ := e3 bs t d h1 h2.2.1
  unfold nS at hn
  rw [e1] at hn
  obtain ⟨k1, k2⟩ := bk_par hb g.2.1 w2 hn h2
  refine ⟨by rw [f2, e2, k2], (fla_g g b).1, f3 k2, ?_⟩
  rw [e1, f1]
  exact k1
end
theorem gS_new : gS ⟨ch0, newE⟩ := ⟨ch0_ok, hI_new, by decide⟩
end Go.Proofs.YtpofabebmeickaaGreatDoor

