/- Contracts of this seat: Md5, Md6, Mdb. -/
import Derived.Test.YtpofabebmeickaaDoorMd4
import Derived.Test.YtpofabebmeickaaDoorZb
import Derived.Test.YtpofabebmeickaaDoorZi
/- kinlaw13.asks with a writer and with a reader: contracts over this seat's translation. -/
namespace Go.Proofs.YtpofabebmeickaaDoor
set_option linter.unusedVariables false
set_option linter.unusedSimpArgs false
open Go.RowKit Go.Extern.Stop Go.Stop Go.Extern

end Go.Proofs.YtpofabebmeickaaDoor

/- Objects beside each other; a list of numbers of the call's own; kinlaw13.first. -/
namespace Go.Proofs.YtpofabebmeickaaDoor
set_option linter.unusedVariables false
set_option linter.unusedSimpArgs false
open Go.RowKit Go.Extern.Stop Go.Stop Go.Extern

theorem WrF.obj (a : Nat) : Obj (WrF a) := ⟨fun h => h.lt, fun h => h.same⟩
theorem RdF.obj (a : Nat) (bs : List Nat) : Obj (RdF a bs) := ⟨fun h => h.lt, fun h => h.same⟩
/-- numbers in a row of the call's own -/
def TlF (w : World) (F : Nat → Prop) (p : Value × List Int) : Prop := w.ownsRow 0 3 1 p.1 p.2.length (p.2.map (Value.int .i64)) ∧ ∀ k, F k ↔ p.1.ownBlock = some k
theorem TlF.obj : Obj TlF := ⟨fun h k hk => (h.1.lt k ((h.2 k).1 hk)).2, fun h k => ⟨own_block h.1 (fun g hg => k g ((h.2 g).2 hg)), h.2⟩⟩
theorem TlF.nil (w : World) : TlF w (fun _ => False) (.slice none 0 0, []) := ⟨World.ownsRow_nil _ _ _ _, fun k => ⟨False.elim, fun h => by simp [Value.ownBlock] at h⟩⟩
theorem TlF.form {w : World} {F : Nat → Prop} {v : Value} {L : List Int} (h : TlF w F (v, L)) : ∃ a c, v = .slice a L.length c := by
  rcases h.1.2 with ⟨e, h0⟩ | ⟨g, cap, cur, e, -⟩
  · have e : v = .slice none 0 0 := e
    have h0 : L.length = 0 := h0
    exact ⟨none, 0, by rw [e, h0]⟩
  · exact ⟨_, _, e⟩
theorem TlF.cell {w : World} {F : Nat → Prop} {v : Value} {L : List Int} {q : Nat} {x : Int} (h : TlF w F (v, L)) (hx : L[q]? = some x) : ∃ g cap, v = .slice (some ⟨g, 0, none⟩) L.length cap ∧ w.cell? ⟨g, q, none⟩ = some (.int .i64 x) := by
  have hq : q < L.length := (List.getElem?_eq_some_iff.1 hx).1
  rcases id h.1.2 with ⟨-, h0⟩ | ⟨g, cap, cur, e, -⟩
  · have h0 : L.length = 0 := h0
    omega
  · have e : v = .slice (some ⟨g, 0, none⟩) L.length cap := e
    subst e
    have hc := h.1.cells (g := g) rfl q (.int .i64 x) (by simp [hx])
    have e2 : (⟨g, 0, none⟩ : Addr).add q = ⟨g, q, none⟩ := by unfold Addr.add; split <;> simp_all
    rw [e2] at hc
    exact ⟨g, cap, rfl, hc⟩
theorem push_tl {σ : Type} {A : World → (Nat → Prop) → σ → Prop} (oa : Obj A) {w0 : World} {ops : Array Oper} {rest : List Oper} {o : Oper} {a : Act} {Q : Exit → Act → World → Prop} {W : World} (hgd : o.guard = none) (s y : Operand) (t : TypeId)
    (ho : o.op = .call { callee := .builtin .append, args := #[s, y], argTypes := #[t, t] }) (ht : Tryd.prog.underlying t = some (.slice 3))
    (v : Value) (L : List Int) (n : Nat) (x : Int) (u : σ) (hn : L.length = n) (hs : a.eval s = v) (hU : Uno (Sep A TlF) w0 W (u, (v, L))) (hx : a.eval y = .slice (some ⟨W.heap.size, 0, none⟩) 1 1) (hn9 : n ≤ 1000000000)
    (h : ∀ g cap w', Uno (Sep A TlF) w0 w' (u, (.slice (some ⟨g, 0, none⟩) (n + 1) cap, L ++ [x])) → wpList Tryd.prog ops Q rest (a.put o.dst (.slice (some ⟨g, 0, none⟩) (n + 1) cap)) w') :
    wpList Tryd.prog ops Q (o :: rest) a (W.alloc (.cells #[.int .i64 x] 3)) := by
  obtain ⟨i0, hi, hz0, hz1, hz2⟩ := info_parts infoInt
  obtain ⟨F, ⟨F1, F2, k1, k2, k3, k4⟩, k5, k6⟩ := hU
  have hown : W.ownsRow 0 3 1 v n (L.map (Value.int .i64)) := by have := k2.1; rw [hn] at this; exact this
  have hown2 : ∀ k, F2 k ↔ v.ownBlock = some k := k2.2
  refine wpList_append_own_at _ hgd s y t ho 0 3 i0 (.int .i64 0) 1 8 ht hi hz0 hz1 hz2 rfl (by decide) v n _ hs (hown.alloc _) ⟨W.heap.size, 0, none⟩ 1 1 [.int .i64 x] hx rfl (cell_one_new _ _ _) (one_int _) (by unfold maxLen; omega) (by omega) (Nat.zero_le _) ?_
  intro v' w' h1 h2 _ hat
  have g := World.grownBy_alloc W (.cells #[.int .i64 x] 3) v.ownBlock
  have hg : W.grownBy w' v.ownBlock := ⟨h2.os.trans g.os, h2.tape.trans g.tape, h2.output.trans g.output, Nat.le_trans g.size h2.size, fun k hk hne => (h2.block k (Nat.lt_of_lt_of_le hk g.size) hne).trans (g.block k hk hne)⟩
  obtain ⟨gg, cap, rfl⟩ : ∃ gg cap, v' = .slice (some ⟨gg, 0, none⟩) (n + 1) cap := by
    rcases h1.2 with ⟨-, h0⟩ | ⟨gg, cap, cur, e, -⟩
    · omega
    · exact ⟨gg, cap, e⟩
  have hf : v.ownBlock = some gg ∨ W.heap.size ≤ gg := by
    rcases hat with e | e
    · exact .inl (e.symm.trans rfl)
    · right
      have e : some gg = _ := e
      have := Option.some.inj e
      rw [this]
      exact g.size
  have st : Step F2 W (fun k => k = gg) w' := ⟨⟨⟨hg.os, hg.tape, hg.output⟩, hg.size, fun k hk hn => hg.block k hk (fun e => hn ((hown2 k).2 e.symm))⟩, fun k hk => by
    subst hk
    exact hf.imp (fun e => (hown2 _).2 e) id⟩
  obtain ⟨j1, j2, j3⟩ := st.apart (oa.lt k1) (fun k hk hf => k3 k hf hk)
  refine h gg cap w' ⟨fun k => F1 k ∨ k = gg, ⟨F1, fun k => k = gg, oa.same k1 j1, ⟨?_, fun k => ⟨fun e => by rw [e]; rfl, fun e => ?_⟩⟩, fun k hk hf => j2 k hf hk, fun _ => Iff.rfl⟩, ?_⟩
  · show w'.ownsRow _ _ _ _ (L ++ [x]).length _
    rw [List.length_append, hn, List.map_append]
    exact h1
  · have e : some gg = some k := e
    exact (Option.some.inj e).symm
  · have hF2 : ∀ k, F2 k → w0.heap.size ≤ k := fun k hk => k6 k ((k4 k).2 (.inr hk))
    obtain ⟨m1, m2⟩ := st.out k5 hF2
    refine ⟨m1, ?_⟩
    rintro k (hk | hk)
    · exact k6 k ((k4 k).2 (.inl hk))
    · exact m2 k hk
/-- what the chapter's examples fix -/
def f13 : Ms Ec := (bitM mE ⟨ch0, newE⟩ 0 false).2
def g13 : Ms Ec := (bitM mE f13 0 true).2
def h13 : Ms Ec := (kindM mE g13 7).2
def i13 : Ms Ec := (modeM mE h13 (cl3 (-1))).2
def j13 : Ms Dc := (kindM (mD []) ⟨ch0, newD []⟩ 3).2
def k13 : Ms Dc := (partM (mD []) j13 (cl15 9)).2
theorem v13 : chV f13.ch 0 = 1056 ∧ chV g13.ch 0 = 1023 ∧ (kindM mE g13 7).1 = 3 ∧ (modeM mE h13 (cl3 (-1))).1 = 0 ∧ (partM mE i13 (cl15 (-20))).1 = -15 ∧ (kindM (mD []) ⟨ch0, newD []⟩ 3).1 = 0 ∧ (partM (mD []) j13 (cl15 9)).1 = 0 ∧ ovrD [] k13.co = 4 := by decide +kernel
theorem okn13 : okS okEm 0 ⟨ch0, newE⟩ := ⟨ch0_ok, newE_ok, by decide⟩
theorem okd13 {bs : List Nat} (hb : ∀ x ∈ bs, x < 256) : okS okDm 4 ⟨ch0, newD bs⟩ := ⟨ch0_ok, (newD_ok hb).1, by rw [(newD_ok hb).2.1]; decide⟩
end Go.Proofs.YtpofabebmeickaaDoor

/- What a model's writer was told a reader tells: plain. -/
namespace Go.Proofs.YtpofabebmeickaaDoor
set_option linter.unusedVariables false
set_option linter.unusedSimpArgs false
open Go.RowKit Go.Extern.Stop Go.Stop Go.Extern

theorem bk_newB {bs : List Nat} (hb : ∀ x ∈ bs, x < 256) {n : Nat} (hi : inE (pn bs n) n newE) : bkI bs newE (newD bs) := by
  have e0 : vE newE = 0 := by decide +kernel
  have e1 : lenE newE = 4 := by decide +kernel
  have hp : pn bs 4 < 4294967295 := by
    have := (in_p hb hi).2
    rw [e0, e1] at this
    have e2 : newE.wid = 4294967295 := rfl
    omega
  obtain ⟨k1, k2⟩ := mv_pn hb 4 (Nat.le_refl _)
  refine ⟨by rw [e1]; exact k1, (newD_ok hb).2.1, ?_, ?_⟩
  · show decide (4294967295 ≤ (mvN bs 4).num) = false
    rw [k2, decide_eq_false_iff_not]
    omega
  · rw [e0, e1, Nat.add_zero]
    exact k2
/-- a writer's state that may be; the number lies within it -/
def gS (s : Ms Ec) : Prop := chI s.ch ∧ hI s.co ∧ 16777216 ≤ s.co.wid
def nS (X n : Nat) (s : Ms Ec) : Prop := inE X n s.co
/-- the width of a bit's lower part -/
theorem bit_w {s : Ms Ec} (g : gS s) (c : Int) (b : Bool) : ∃ w, (1 ≤ w ∧ w < s.co.wid) ∧ (bitM mE s c b).2.co = parE s.co w b ∧ (bitM mE s c b).1 = b ∧
    ∀ (bs : List Nat) (t : Ms Dc) (d : Bool), t.ch = s.ch → t.co.wid = s.co.wid → (bitM (mD bs) t c d).2.co = parD bs t.co w ∧ (bitM (mD bs) t c d).1 = upD t.co w ∧ (upD t.co w = b → (bitM (mD bs) t c d).2.ch = (bitM mE s c b).2.ch) := by
  obtain ⟨g1, g2, g3⟩ := g
  unfold bitM
  cases hc : ctxM c
  · refine ⟨s.co.wid / 2, ⟨by omega, by omega⟩, rfl, rfl, fun bs t d h1 h2 => ?_⟩
    refine ⟨?_, ?_, fun _ => h1⟩
    · show parD bs t.co (t.co.wid / 2) = _
      rw [h2]
    · show upD t.co (t.co.wid / 2) = _
      rw [h2]
  · obtain ⟨p, hp⟩ : ∃ p, s.ch c.toNat = p := ⟨_, rfl⟩
    obtain ⟨p1, p2⟩ := g1 c.toNat
    rw [hp] at p1 p2
    have hch := chance_ok p1 p2
    have hpt : ((p : Int)).toNat = p := Int.toNat_natCast p
    have he : ∀ u : Ec, codE u (p : Int) b = parE u (u.wid / 2048 * p) b := fun u => by unfold codE; rw [hch, hpt]; rfl
    have hd : ∀ (bs : List Nat) (u : Dc), codD bs u (p : Int) = parD bs u (u.wid / 2048 * p) := fun bs u => by unfold codD; rw [hch, hpt]; rfl
    have hu : ∀ u : Dc, codU u (p : Int) = upD u (u.wid / 2048 * p) := fun u => by unfold codU; rw [hch, hpt]; rfl
    refine ⟨s.co.wid / 2048 * p, part_of g3 (by omega) (by omega), ?_, rfl, fun bs t d h1 h2 => ?_⟩
    · show codE s.co (s.ch c.toNat : Int) b = _
      rw [hp, he]
    · refine ⟨?_, ?_, fun hv => ?_⟩
      · show codD bs t.co (t.ch c.toNat : Int) = _
        rw [h1, hp, hd, h2]
      · show codU t.co (t.ch c.toNat : Int) = _
        rw [h1, hp, hu, h2]
      · show setM t.ch c.toNat (lrnM (t.ch c.toNat) (codU t.co (t.ch c.toNat : Int))) = setM s.ch c.toNat (lrnM (s.ch c.toNat) b)
        rw [h1, hp, hu, h2, hv]
theorem fla_w {s : Ms Ec} (g : gS s) (b : Bool) : ∃ w, (1 ≤ w ∧ w < s.co.wid) ∧ (flaM mE s b).2.co = parE s.co w b ∧ (flaM mE s b).1 = b ∧
    ∀ (bs : List Nat) (t : Ms Dc) (d : Bool), t.ch = s.ch → t.co.wid = s.co.wid → (flaM (mD bs) t d).2.co = parD bs t.co w ∧ (flaM (mD bs) t d).1 = upD t.co w ∧ (upD t.co w = b → (flaM (mD bs) t d).2.ch = (flaM mE s b).2.ch) := by
  obtain ⟨g1, g2, g3⟩ := g
  refine ⟨s.co.wid / 2, ⟨by omega, by omega⟩, rfl, rfl, fun bs t d h1 h2 => ?_⟩
  refine ⟨?_, ?_, fun _ => h1⟩
  · show parD bs t.co (t.co.wid / 2) = _
    rw [h2]
  · show upD t.co (t.co.wid / 2) = _
    rw [h2]
theorem bit_g {s : Ms Ec} (g : gS s) (c : Int) (b : Bool) : gS (bitM mE s c b).2 ∧ (bitM mE s c b).1 = b := by
  obtain ⟨w, ⟨w1, w2⟩, h1, h2, -⟩ := bit_w g c b
  refine ⟨⟨?_, ?_, ?_⟩, h2⟩
  · unfold bitM
    split
    · exact g.1.set _ _
    · exact g.1
  · rw [h1]; exact hI_par g.2.1 w2
  · rw [h1]
    refine nrm_wide 3 ?_
    rw [midE_wid]
    show 16777216 ≤ _ * 16777216
    split <;> omega
theorem fla_g {s : Ms Ec} (g : gS s) (b : Bool) : gS (flaM mE s b).2 ∧ (flaM mE s b).1 = b := by
  obtain ⟨w, ⟨w1, w2⟩, h1, h2, -⟩ := fla_w g b
  refine ⟨⟨g.1, ?_, ?_⟩, h2⟩
  · rw [h1]; exact hI_par g.2.1 w2
  · rw [h1]
    refine nrm_wide 3 ?_
    rw [midE_wid]
    show 16777216 ≤ _ * 16777216
    split <;> omega
/-- writer and reader side by side -/
def wrI (bs : List Nat) (s : Ms Ec) (t : Ms Dc) : Prop := gS s ∧ t.ch = s.ch ∧ bkI bs s.co t.co
section
variable {X n : Nat}
theorem bit_n {s : Ms Ec} (g : gS s) {c : Int} {b : Bool} (h : nS X n (bitM mE s c b).2) : nS X n s := by
  obtain ⟨w, ⟨w1, w2⟩, h1, h2, -⟩ := bit_w g c b
  unfold nS at h
  rw [h1] at h
  exact (in_par g.2.1 w2 h).2
theorem fla_n {s : Ms Ec} (g : gS s) {b : Bool} (h : nS X n (flaM mE s b).2) : nS X n s := by
  obtain ⟨w, ⟨w1, w2⟩, h1, h2, -⟩ := fla_w g b
  unfold nS at h
  rw [h1] at h
  exact (in_par g.2.1 w2 h).2
theorem kind_g {s : Ms Ec} (g : gS s) (k : Int) : gS (kindM mE s k).2 ∧ (nS X n (kindM mE s k).2 → nS X n s) := by
  obtain ⟨g1, -⟩ := bit_g g 0 (decide (0 < k))
  obtain ⟨g2, -⟩ := bit_g g1 1 (decide (1 < k))
  obtain ⟨g3, -⟩ := bit_g g2 2 (decide (2 < k))
  unfold kindM
  split
  · split
    · exact ⟨g3, fun h => bit_n g (bit_n g1 (bit_n g2 h))⟩
    · exact ⟨g2, fun h => bit_n g (bit_n g1 h)⟩
  · exact ⟨g1, fun h => bit_n g h⟩
theorem mode_g {s : Ms Ec} (g : gS s) (k : Nat) : gS (modeM mE s k).2 ∧ (nS X n (modeM mE s k).2 → nS X n s) := by
  obtain ⟨g1, -⟩ := bit_g g 3 (decide (1 < k))
  unfold modeM
  split
  · exact ⟨(bit_g g1 5 _).1, fun h => bit_n g (bit_n g1 h)⟩
  · exact ⟨(bit_g g1 4 _).1, fun h => bit_n g (bit_n g1 h)⟩
theorem siz_g {z : Int} : ∀ (f m : Nat) {s : Ms Ec}, gS s → gS (sizM mE z f m s).2 ∧ (nS X n (sizM mE z f m s).2 → nS X n s)
  | 0, _, _, g => ⟨g, id⟩
  | f + 1, m, s, g => by
    obtain ⟨g1, -⟩ := bit_g g ((7 + min m 6 : Nat) : Int) (decide ((m : Int) < z))
    unfold sizM
    split
    · obtain ⟨g2, h2⟩ := siz_g (z := z) f (m + 1) g1
      exact ⟨g2, fun h => bit_n g (h2 h)⟩
    · exact ⟨g1, fun h => bit_n g h⟩
theorem part_g {s : Ms Ec} (g : gS s) (v : Int) : gS (partM mE s v).2 ∧ (nS X n (partM mE s v).2 → nS X n s) := by
  obtain ⟨g1, -⟩ := bit_g g 6 (decide (v ≠ 0))
  obtain ⟨g2, -⟩ := fla_g g1 (decide (v < 0))
  obtain ⟨g3, h3⟩ := siz_g (X := X) (n := n) (z := (v.natAbs : Int) - 1) 14 0 g2
  unfold partM
  split
  · exact ⟨g3, fun h => bit_n g (fla_n g1 (h3 h))⟩
  · exact ⟨g1, fun h => bit_n g h⟩
theorem ask_g {s : Ms Ec} (g : gS s) (o : Mo) : gS (askM mE s o).2 ∧ (nS X n (askM mE s o).2 → nS X n s) := by
  unfold askM
  split
  · exact ⟨(bit_g g _ _).1, fun h => bit_n g h⟩
  · split
    · exact ⟨(fla_g g _).1, fun h => fla_n g h⟩
    · split
      · exact kind_g g _
      · split
        · exact mode_g g _
        · exact part_g g _
end
section
variable {bs : List Nat} {n : Nat} (hb : ∀ x ∈ bs, x < 256)
include hb
theorem bit_b {s : Ms Ec} {t : Ms Dc} {c : Int} {b : Bool} (d : Bool) (h : wrI bs s t) (hn : nS (pn bs n) n (bitM mE s c b).2) : (bitM (mD bs) t c d).1 = (bitM mE s c b).1 ∧ wrI bs (bitM mE s c b).2 (bitM (mD bs) t c d).2 := by
  obtain ⟨g, h1, h2⟩ := h
  obtain ⟨w, ⟨w1, w2⟩, e1, e2, e3⟩ := bit_w g c b
  obtain ⟨f1, f2, f3⟩ := e3 bs t d h1 h2.2.1
  unfold nS at hn
  rw [e1] at hn
  obtain ⟨k1, k2⟩ := bk_par hb g.2.1 w2 hn h2
  refine ⟨by rw [f2, e2, k2], (bit_g g c b).1, f3 k2, ?_⟩
  rw [e1, f1]
  exact k1
theorem fla_b {s : Ms Ec} {t : Ms Dc} {b : Bool} (d : Bool) (h : wrI bs s t) (hn : nS (pn bs n) n (flaM mE s b).2) : (flaM (mD bs) t d).1 = (flaM mE s b).1 ∧ wrI bs (flaM mE s b).2 (flaM (mD bs) t d).2 := by
  obtain ⟨g, h1, h2⟩ := h
  obtain ⟨w, ⟨w1, w2⟩, e1, e2, e3⟩ := fla_w g b
  obtain ⟨f1, f2, f3⟩ := e3 bs t d h1 h2.2.1
  unfold nS at hn
  rw [e1] at hn
  obtain ⟨k1, k2⟩ := bk_par hb g.2.1 w2 hn h2
  refine ⟨by rw [f2, e2, k2], (fla_g g b).1, f3 k2, ?_⟩
  rw [e1, f1]
  exact k1
theorem kind_b {s : Ms Ec} {t : Ms Dc} (k d : Int) (h : wrI bs s t) (hn : nS (pn bs n) n (kindM mE s k).2) : (kindM (mD bs) t d).1 = (kindM mE s k).1 ∧ wrI bs (kindM mE s k).2 (kindM (mD bs) t d).2 := by
  obtain ⟨g1, b1⟩ := bit_g h.1 0 (decide (0 < k))
  obtain ⟨g2, b2⟩ := bit_g g1 1 (decide (1 < k))
  obtain ⟨g3, b3⟩ := bit_g g2 2 (decide (2 < k))
  unfold kindM at hn ⊢
  cases c1 : (bitM mE s 0 (decide (0 < k))).1
  · rw [c1] at hn
    obtain ⟨a1, r1⟩ := bit_b hb (decide (0 < d)) h hn
    rw [a1, c1]
    exact ⟨rfl, r1⟩
  · rw [c1] at hn
    cases c2 : (bitM mE (bitM mE s 0 (decide (0 < k))).2 1 (decide (1 < k))).1
    · rw [c2] at hn
      obtain ⟨a1, r1⟩ := bit_b hb (decide (0 < d)) h (bit_n g1 hn)
      obtain ⟨a2, r2⟩ := bit_b hb (decide (1 < d)) r1 hn
      rw [a1, c1]
      show (if (bitM (mD bs) (bitM (mD bs) t 0 (decide (0 < d))).2 1 (decide (1 < d))).1 = true then _ else _ : Nat × Ms Dc).1 = _ ∧ _
      rw [a2, c2]
      exact ⟨rfl, r2⟩
    · rw [c2] at hn
      obtain ⟨a1, r1⟩ := bit_b hb (decide (0 < d)) h (bit_n g1 (bit_n g2 hn))
      obtain ⟨a2, r2⟩ := bit_b hb (decide (1 < d)) r1 (bit_n g2 hn)
      obtain ⟨a3, r3⟩ := bit_b hb (decide (2 < d)) r2 hn
      rw [a1, c1]
      show (if (bitM (mD bs) (bitM (mD bs) t 0 (decide (0 < d))).2 1 (decide (1 < d))).1 = true then _ else _ : Nat × Ms Dc).1 = _ ∧ _
      rw [a2, c2, a3]
      exact ⟨rfl, r3⟩
theorem mode_b {s : Ms Ec} {t : Ms Dc} (k d : Nat) (h : wrI bs s t) (hn : nS (pn bs n) n (modeM mE s k).2) : (modeM (mD bs) t d).1 = (modeM mE s k).1 ∧ wrI bs (modeM mE s k).2 (modeM (mD bs) t d).2 := by
  obtain ⟨g1, b1⟩ := bit_g h.1 3 (decide (1 < k))
  unfold modeM at hn ⊢
  cases c1 : (bitM mE s 3 (decide (1 < k))).1
  · rw [c1] at hn
    obtain ⟨a1, r1⟩ := bit_b hb (decide (1 < d)) h (bit_n g1 hn)
    obtain ⟨a2, r2⟩ := bit_b hb (decide (d % 2 = 1)) r1 hn
    rw [a1, c1, a2]
    exact ⟨rfl, r2⟩
  · rw [c1] at hn
    obtain ⟨a1, r1⟩ := bit_b hb (decide (1 < d)) h (bit_n g1 hn)
    obtain ⟨a2, r2⟩ := bit_b hb (decide (d % 2 = 1)) r1 hn
    rw [a1, c1, a2]
    exact ⟨rfl, r2⟩
theorem siz_b {z y : Int} : ∀ (f m : Nat) {s : Ms Ec} {t : Ms Dc}, wrI bs s t → nS (pn bs n) n (sizM mE z f m s).2 → (sizM (mD bs) y f m t).1 = (sizM mE z f m s).1 ∧ wrI bs (sizM mE z f m s).2 (sizM (mD bs) y f m t).2
  | 0, _, _, _, h, _ => ⟨rfl, h⟩
  | f + 1, m, s, t, h, hn => by
    obtain ⟨g1, b1⟩ := bit_g h.1 ((7 + min m 6 : Nat) : Int) (decide ((m : Int) < z))
    unfold sizM at hn ⊢
    cases c1 : (bitM mE s ((7 + min m 6 : Nat) : Int) (decide ((m : Int) < z))).1
    · rw [c1] at hn
      obtain ⟨a1, r1⟩ := bit_b hb (decide ((m : Int) < y)) h hn
      rw [a1, c1]
      exact ⟨rfl, r1⟩
    · rw [c1] at hn
      obtain ⟨a1, r1⟩ := bit_b hb (decide ((m : Int) < y)) h ((siz_g f (m + 1) g1).2 hn)
      rw [a1, c1]
      exact siz_b f (m + 1) r1 hn
theorem part_b {s : Ms Ec} {t : Ms Dc} (v d : Int) (h : wrI bs s t) (hn : nS (pn bs n) n (partM mE s v).2) : (partM (mD bs) t d).1 = (partM mE s v).1 ∧ wrI bs (partM mE s v).2 (partM (mD bs) t d).2 := by
  obtain ⟨g1, b1⟩ := bit_g h.1 6 (decide (v ≠ 0))
  obtain ⟨g2, b2⟩ := fla_g g1 (decide (v < 0))
  obtain ⟨g3, h3⟩ := siz_g (X := pn bs n) (n := n) (z := (v.natAbs : Int) - 1) 14 0 g2
  unfold partM at hn ⊢
  cases c1 : (bitM mE s 6 (decide (v ≠ 0))).1
  · rw [c1] at hn
    obtain ⟨a1, r1⟩ := bit_b hb (decide (d ≠ 0)) h hn
    rw [a1, c1]
    exact ⟨rfl, r1⟩
  · rw [c1] at hn
    obtain ⟨a1, r1⟩ := bit_b hb (decide (d ≠ 0)) h (fla_n g1 (h3 hn))
    obtain ⟨a2, r2⟩ := fla_b hb (decide (d < 0)) r1 (h3 hn)
    obtain ⟨a3, r3⟩ := siz_b hb (y := (d.natAbs : Int) - 1) 14 0 r2 hn
    rw [a1, c1, a2, a3]
    exact ⟨rfl, r3⟩
theorem ask_b {s : Ms Ec} {t : Ms Dc} (o : Mo) (v : Int) (b : Bool) (h : wrI bs s t) (hn : nS (pn bs n) n (askM mE s o).2) : (askM (mD bs) t ⟨o.k, o.c, v, b⟩).1 = (askM mE s o).1 ∧ wrI bs (askM mE s o).2 (askM (mD bs) t ⟨o.k, o.c, v, b⟩).2 := by
  unfold askM at hn ⊢
  by_cases h0 : o.k = 0
  · rw [if_pos h0] at hn ⊢
    obtain ⟨a, r⟩ := bit_b hb b h hn
    rw [if_pos h0, a]
    exact ⟨rfl, r⟩
  rw [if_neg h0] at hn ⊢
  rw [if_neg h0]
  by_cases h1 : o.k = 1
  · rw [if_pos h1] at hn ⊢
    obtain ⟨a, r⟩ := fla_b hb b h hn
    rw [if_pos h1, a]
    exact ⟨rfl, r⟩
  rw [if_neg h1] at hn ⊢
  rw [if_neg h1]
  by_cases h2 : o.k = 2
  · rw [if_pos h2] at hn ⊢
    obtain ⟨a, r⟩ := kind_b hb o.v v h hn
    rw [if_pos h2, a]
    exact ⟨rfl, r⟩
  rw [if_neg h2] at hn ⊢
  rw [if_neg h2]
  by_cases h3 : o.k = 3
  · rw [if_pos h3] at hn ⊢
    obtain ⟨a, r⟩ := mode_b hb (cl3 o.v) (cl3 v) h hn
    rw [if_pos h3, a]
    exact ⟨rfl, r⟩
  rw [if_neg h3] at hn ⊢
  rw [if_neg h3]
  exact part_b hb _ _ h hn
end
/-- a writer behind a list of calls; what it told -/
def wsM (L : List Mo) : Ms Ec := L.foldl (fun s o => (askM mE s o).2) ⟨ch0, newE⟩
def toM : Ms Ec → List Mo → List Int
  | _, [] => []
  | s, o :: L => (askM mE s o).1 :: toM (askM mE s o).2 L
theorem ws_snoc (L : List Mo) (o : Mo) : wsM (L ++ [o]) = (askM mE (wsM L) o).2 := by unfold wsM; rw [List.foldl_append]; rfl
theorem gS_new : gS ⟨ch0, newE⟩ := ⟨ch0_ok, hI_new, by decide⟩
theorem ws_g (L : List Mo) : gS (wsM L) := by
  unfold wsM
  generalize (⟨ch0, newE⟩ : Ms Ec) = s, gS_new = g
  revert s
  induction L with
  | nil => intro s g; exact g
  | cons o L ih => intro s g; exact ih _ (ask_g (X := 0) (n := 0) g o).1
theorem ws_n {X n : Nat} (L K : List Mo) : nS X n (wsM (L ++ K)) → nS X n (wsM L) := by
  have h : wsM (L ++ K) = K.foldl (fun s o => (askM mE s o).2) (wsM L) := by unfold wsM; rw [List.foldl_append]
  rw [h]
  have g := ws_g L
  generalize wsM L = s at g
  clear h
  induction K generalizing s with
  | nil => intro h; exact h
  | cons o K ih => intro h; exact (ask_g g o).2 (ih _ (ask_g (X := 0) (n := 0) g o).1 h)
def bsM (L : List Mo) : List Nat := trimE (allE (wsM L).co)
theorem ws_end (L : List Mo) (m : Nat) : nS (pn (bsM L) (lenE (wsM L).co)) (lenE (wsM L).co) (wsM (L.take m)) := by
  refine ws_n (L.take m) (L.drop m) ?_
  rw [List.take_append_drop]
  have g := ws_g L
  refine ⟨0, rfl, ?_, ?_⟩
  · rw [show pn (bsM L) (lenE (wsM L).co) = vE (wsM L).co from pn_end g.2.1]
    omega
  · rw [show pn (bsM L) (lenE (wsM L).co) = vE (wsM L).co from pn_end g.2.1]
    have := g.2.2
    omega
/-- a reader of all of it, behind the first calls -/
def rsM (L : List Mo) (v : Int) (b : Bool) (m : Nat) : Ms Dc := (L.take m).foldl (fun t o => (askM (mD (bsM L)) t ⟨o.k, o.c, v, b⟩).2) ⟨ch0, newD (bsM L)⟩
theorem rs_i {L : List Mo} (hb : ∀ x ∈ bsM L, x < 256) (v : Int) (b : Bool) : ∀ m, m ≤ L.length → wrI (bsM L) (wsM (L.take m)) (rsM L v b m)
  | 0, _ => ⟨gS_new, rfl, bk_newB hb (ws_end L 0)⟩
  | m + 1, h => by
    have ih := rs_i hb v b m (by omega)
    have hl : m < L.length := h
    have e1 : L.take (m + 1) = L.take m ++ [L[m]] := List.take_succ_eq_append_getElem hl
    have e2 : rsM L v b (m + 1) = (askM (mD (bsM L)) (rsM L v b m) ⟨L[m].k, L[m].c, v, b⟩).2 := by unfold rsM; rw [e1, List.foldl_append]; rfl
    have hn := ws_end L (m + 1)
    rw [e1, ws_snoc] at hn ⊢
    rw [e2]
    exact (ask_b hb L[m] v b ih hn).2
theorem rs_o {L : List Mo} (hb : ∀ x ∈ bsM L, x < 256) (v : Int) (b : Bool) {m : Nat} {o : Mo} (ho : L[m]? = some o) : (askM (mD (bsM L)) (rsM L v b m) ⟨o.k, o.c, v, b⟩).1 = (askM mE (wsM (L.take m)) o).1 ∧ rsM L v b (m + 1) = (askM (mD (bsM L)) (rsM L v b m) ⟨o.k, o.c, v, b⟩).2 ∧ wsM (L.take (m + 1)) = (askM mE (wsM (L.take m)) o).2 := by
  obtain ⟨hl, rfl⟩ := List.getElem?_eq_some_iff.1 ho
  have ih := rs_i hb v b m (by omega)
  have e1 : L.take (m + 1) = L.take m ++ [L[m]] := List.take_succ_eq_append_getElem hl
  have hn := ws_end L (m + 1)
  rw [e1, ws_snoc] at hn
  exact ⟨(ask_b hb L[m] v b ih hn).1, by unfold rsM; rw [e1, List.foldl_append]; rfl, by rw [e1, ws_snoc]⟩
end Go.Proofs.YtpofabebmeickaaDoor
