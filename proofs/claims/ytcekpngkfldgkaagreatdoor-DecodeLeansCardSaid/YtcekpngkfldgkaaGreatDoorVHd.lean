/- Contracts of this seat: DeL, DeN, DeP. -/
import Derived.Test.YtcekpngkfldgkaaGreatDoorVHc
import Derived.Test.YtcekpngkfldgkaaGreatDoorVGk
/- decode.Frames. -/
namespace Go.Proofs.YtcekpngkfldgkaaGreatDoor
set_option linter.unusedVariables false
set_option linter.unusedSimpArgs false
open Go.RowKit Go.Extern.Stop Go.Stop Go.Extern

abbrev Cd := Int × List Nat
def byV (bs : List Nat) : List Value := bs.map fun x : Nat => Value.int .u8 (x : Int)
/-- a coded frame in a list -/
def CdIn (w : World) (g i : Nat) (c : Cd) : Prop := ∃ ra rn rc, w.cell? ⟨g, i, none⟩ = some (.int .i64 c.1) ∧ w.cell? ⟨g, i + 1, none⟩ = some (.slice ra rn rc) ∧ Row w (.slice ra rn rc) c.2.length (byV c.2) ∧ ∀ x ∈ c.2, x < 256
def Cds (w : World) (v : Value) (L : List Cd) : Prop := ∃ (a : Option Addr) (cap : Nat), v = .slice a L.length cap ∧ (L.length ≤ cap ∧ cap ≤ maxLen) ∧ (0 < L.length → ∃ g off, a = some ⟨g, off, none⟩ ∧ ∀ q c, L[q]? = some c → CdIn w g (off + q * 2) c)
theorem CdIn.ext {w w' : World} {g i : Nat} {c : Cd} (h : CdIn w g i c) (k : Ext w w') : CdIn w' g i c := by
  obtain ⟨ra, rn, rc, h1, h2, h3, h4⟩ := h
  exact ⟨ra, rn, rc, k.cell h1, k.cell h2, h3.ext k, h4⟩
theorem Cds.ext {w w' : World} {v : Value} {L : List Cd} (h : Cds w v L) (k : Ext w w') : Cds w' v L := by
  obtain ⟨a, cap, e, hc, h⟩ := h
  refine ⟨a, cap, e, hc, fun h0 => ?_⟩
  obtain ⟨g, off, e2, h3⟩ := h h0
  exact ⟨g, off, e2, fun q c hq => (h3 q c hq).ext k⟩
theorem Cds.form {w : World} {v : Value} {L : List Cd} (h : Cds w v L) : ∃ a cap, v = .slice a L.length cap := by
  obtain ⟨a, cap, e, -⟩ := h
  exact ⟨a, cap, e⟩
theorem Cds.len {w : World} {a : Option Addr} {n cap : Nat} {L : List Cd} (h : Cds w (.slice a n cap) L) : n = L.length := by
  obtain ⟨a', c', e⟩ := h.form
  simp only [Value.slice.injEq] at e
  exact e.2.1
theorem Cds.had {w : World} {a : Option Addr} {n cap : Nat} {L : List Cd} (h : Cds w (.slice a n cap) L) (hn : 0 < n) : ∃ g off, a = some ⟨g, off, none⟩ := by
  have hl := h.len
  obtain ⟨a', cap', e, -, h⟩ := h
  simp only [Value.slice.injEq] at e
  obtain ⟨g, off, e2, -⟩ := h (by omega)
  exact ⟨g, off, e.1.trans e2⟩
theorem Cds.at {w : World} {g off n cap : Nat} {L : List Cd} (h : Cds w (.slice (some ⟨g, off, none⟩) n cap) L) {q : Nat} {c : Cd} (hq : L[q]? = some c) : CdIn w g (off + q * 2) c := by
  obtain ⟨a', cap', e, -, h⟩ := h
  simp only [Value.slice.injEq] at e
  have hlt := (List.getElem?_eq_some_iff.1 hq).1
  obtain ⟨g', off', e2, h3⟩ := h (by omega)
  have := e.1.trans e2
  simp only [Option.some.injEq, Addr.mk.injEq, and_true] at this
  obtain ⟨rfl, rfl⟩ := this
  exact h3 q c hq
theorem Cds.caps {w : World} {a : Option Addr} {n cap : Nat} {L : List Cd} (h : Cds w (.slice a n cap) L) : n ≤ cap ∧ cap ≤ maxLen := by
  obtain ⟨a', cap', e, hc, -⟩ := h
  simp only [Value.slice.injEq] at e
  obtain ⟨rfl, rfl, rfl⟩ := e
  exact hc
theorem Cds.nil (w : World) : Cds w (.slice none 0 0) [] := ⟨none, 0, rfl, ⟨Nat.le_refl _, Nat.zero_le _⟩, fun h => by simp at h⟩
def frsS : ByteArray := ⟨#[102, 114, 97, 109, 101, 115]⟩
def long5 : Fall := some ([], 5)
noncomputable def dfsRun (W H : Int) : List Cd → Nat → Fr → List Fr → Fall × List Fr
  | [], _, _, acc => (none, acc)
  | c :: l, i, prev, acc => match (dfrV c.1 c.2 prev.1 prev.2.1 prev.2.2 W H).1 with
    | some e => (some ((frsS, (i : Int)) :: e.1, e.2), [])
    | none => dfsRun W H l (i + 1) (dfrV c.1 c.2 prev.1 prev.2.1 prev.2.2 W H).2 (acc ++ [(dfrV c.1 c.2 prev.1 prev.2.1 prev.2.2 W H).2])
theorem dfsRun_ok {W H : Int} {c : Cd} {l : List Cd} {i : Nat} {prev f : Fr} {acc : List Fr} (h : dfrV c.1 c.2 prev.1 prev.2.1 prev.2.2 W H = (none, f)) : dfsRun W H (c :: l) i prev acc = dfsRun W H l (i + 1) f (acc ++ [f]) := by rw [dfsRun, h]
theorem dfsRun_bad {W H : Int} {c : Cd} {l : List Cd} {i : Nat} {prev f : Fr} {acc : List Fr} {e : List (ByteArray × Int) × Int} (h : dfrV c.1 c.2 prev.1 prev.2.1 prev.2.2 W H = (some e, f)) : dfsRun W H (c :: l) i prev acc = (some ((frsS, (i : Int)) :: e.1, e.2), []) := by rw [dfsRun, h]
noncomputable def dfsV (L : List Cd) (W H : Int) : Fall × List Fr := if 16 < L.length then (long5, []) else dfsRun W H L 0 fr00 []
/-- a slice's length lies within its room -/
def CapOk (v : Value) : Prop := ∃ a n cap, v = .slice a n cap ∧ n ≤ cap ∧ cap ≤ maxLen
theorem CapOk.of {a : Option Addr} {n cap : Nat} (h : CapOk (.slice a n cap)) : n ≤ cap ∧ cap ≤ maxLen := by
  obtain ⟨a', n', cap', e, h⟩ := h
  simp only [Value.slice.injEq] at e
  obtain ⟨rfl, rfl, rfl⟩ := e
  exact h
theorem CapOk.nil : CapOk (.slice none 0 0) := ⟨_, _, _, rfl, Nat.le_refl _, Nat.zero_le _⟩
def DfsP (w : World) (r : Fall × List Fr) (e : Ending) (w' : World) : Prop := ∃ v x, e = .returned (.tuple #[v, x]) ∧ Ext w w' ∧ (Fms w' v r.2 ∧ CapOk v) ∧ ErrIs w' r.1 x
/-- frames with the values of their samples, as cells -/
def frCells (Z : List (Fr × Value)) : List Value := Z.flatMap fun z => [.int .i64 z.1.1, .int .i64 z.1.2.1, z.2]
theorem frCells_snoc (Z : List (Fr × Value)) (z : Fr × Value) : frCells (Z ++ [z]) = frCells Z ++ [.int .i64 z.1.1, .int .i64 z.1.2.1, z.2] := by
  unfold frCells
  rw [List.flatMap_append]
  rfl
theorem frCells_get : ∀ (Z : List (Fr × Value)) (q : Nat) (z : Fr × Value), Z[q]? = some z → (frCells Z)[q * 3]? = some (.int .i64 z.1.1) ∧ (frCells Z)[q * 3 + 1]? = some (.int .i64 z.1.2.1) ∧ (frCells Z)[q * 3 + 2]? = some z.2
  | [], q, z, h => by simp at h
  | y :: Z, 0, z, h => by
    simp only [List.getElem?_cons_zero, Option.some.injEq] at h
    subst h
    exact ⟨rfl, rfl, rfl⟩
  | y :: Z, q + 1, z, h => by
    obtain ⟨h1, h2, h3⟩ := frCells_get Z q z (by simpa using h)
    have e : frCells (y :: Z) = .int .i64 y.1.1 :: .int .i64 y.1.2.1 :: y.2 :: frCells Z := rfl
    rw [e, show (q + 1) * 3 = q * 3 + 1 + 1 + 1 by omega]
    exact ⟨h1, h2, h3⟩
/-- a list of frames of the call's own; a frame in a box of its own -/
def FlF (w : World) (F : Nat → Prop) (p : Value × List (Fr × Value)) : Prop := w.ownsRow 0 24 3 p.1 p.2.length (frCells p.2) ∧ ∀ k, F k ↔ p.1.ownBlock = some k
theorem FlF.obj : Obj FlF := ⟨fun h k hk => (h.1.lt k ((h.2 k).1 hk)).2, fun h k => ⟨own_block h.1 (fun g hg => k g ((h.2 g).2 hg)), h.2⟩⟩
theorem FlF.nil (w : World) : FlF w (fun _ => False) (.slice none 0 0, []) := ⟨World.ownsRow_nil _ _ _ _, fun k => ⟨False.elim, fun h => by cases h⟩⟩
def FbF (p : Nat) (w : World) (F : Nat → Prop) (cs : Array Value) : Prop := BoxIs w p cs 24 ∧ ∀ k, F k ↔ k = p
theorem FbF.obj (p : Nat) : Obj (FbF p) := ⟨fun h k hk => by rw [(h.2 k).1 hk]; exact h.1.lt, fun h k => ⟨(k p ((h.2 p).2 rfl)).trans h.1, h.2⟩⟩
section
variable {σ : Type} {A : World → (Nat → Prop) → σ → Prop} {w0 w : World}
theorem fb_box {p : Nat} {s : σ} {cs : Array Value} {P : World → Prop} (h : Uno (Sep (Sep A (FbF p)) HoF) w0 w ((s, cs), P)) : BoxIs w p cs 24 := by
  obtain ⟨_, ⟨F1, F2, ⟨G1, G2, g1, g2, g3, g4⟩, h2, h3, h4⟩, -⟩ := h
  exact g2.1
theorem fb_set (oa : Obj A) {p : Nat} {s : σ} {cs : Array Value} {P : World → Prop} (h : Uno (Sep (Sep A (FbF p)) HoF) w0 w ((s, cs), P)) (i : Nat) (v : Value) : Uno (Sep (Sep A (FbF p)) HoF) w0 (w.setCell ⟨p, i, none⟩ v) ((s, cs.setIfInBounds i v), P) := by
  obtain ⟨F, ⟨F1, F2, ⟨G1, G2, g1, g2, g3, g4⟩, h2, h3, h4⟩, h5, h6⟩ := h
  have hp2 : G2 p := (g2.2 p).2 rfl
  have n1 : ∀ k, G1 k → k ≠ p := fun k hk e => g3 p hp2 (e ▸ hk)
  have n2 : ∀ k, F2 k → k ≠ p := fun k hk e => h3 k hk ((g4 k).2 (.inr (e ▸ hp2)))
  have hFp : F p := (h4 p).2 (.inl ((g4 p).2 (.inr hp2)))
  exact ⟨F, ⟨F1, F2, ⟨G1, G2, oa.same g1 (fun k hk => Below.heap_setCell w ⟨p, i, none⟩ v k (fun e => n1 k hk e)), ⟨g2.1.set (i := i) v, g2.2⟩, g3, g4⟩, HoF.obj.same h2 (fun k hk => Below.heap_setCell w ⟨p, i, none⟩ v k (fun e => n2 k hk e)), h3, h4⟩, h5.setCell (p := ⟨p, i, none⟩) (h6 p hFp) _, h6⟩
theorem push_fl (oa : Obj A) {ops : Array Oper} {rest : List Oper} {o : Oper} {a : Act} {Q : Exit → Act → World → Prop} {W : World} (hgd : o.guard = none) (s y : Operand) (t : TypeId)
    (ho : o.op = .call { callee := .builtin .append, args := #[s, y], argTypes := #[t, t] }) (ht : Tryz.prog.underlying t = some (.slice 24))
    (v : Value) (Z : List (Fr × Value)) (n : Nat) (fw fh : Int) (zs : List Int) (ra : Option Addr) (rn rc : Nat) (u : σ) (hn : Z.length = n) (hs : a.eval s = v) (hU : Uno (Sep A FlF) w0 W (u, (v, Z))) (hx : a.eval y = .slice (some ⟨W.heap.size, 0, none⟩) 1 1) (hn9 : n ≤ 1000000)
    (h : ∀ g cap w', Uno (Sep A FlF) w0 w' (u, (.slice (some ⟨g, 0, none⟩) (n + 1) cap, Z ++ [((fw, fh, zs), .slice ra rn rc)])) → wpList Tryz.prog ops Q rest (a.put o.dst (.slice (some ⟨g, 0, none⟩) (n + 1) cap)) w') :
    wpList Tryz.prog ops Q (o :: rest) a (W.alloc (.cells #[.int .i64 fw, .int .i64 fh, .slice ra rn rc] 24)) := by
  obtain ⟨F, ⟨F1, F2, k1, k2, k3, k4⟩, k5, k6⟩ := hU
  have hown : W.ownsRow 0 24 3 v n (frCells Z) := by have := k2.1; rw [hn] at this; exact this
  have hown2 : ∀ k, F2 k ↔ v.ownBlock = some k := k2.2
  refine push_fr hgd s y t ho ht v n (frCells Z) fw fh (.slice ra rn rc) rfl hs hown hx (Nat.zero_le _) hn9 ?_
  intro v' w' h1 hg hat
  obtain ⟨gg, cap, rfl⟩ : ∃ gg cap, v' = .slice (some ⟨gg, 0, none⟩) (n + 1) cap := by
    rcases h1.2 with ⟨-, h0⟩ | ⟨gg, cap, cur, e, -⟩
    · omega
    · exact ⟨gg, cap, e⟩
  have hf : v.ownBlock = some gg ∨ W.heap.size ≤ gg := by
    rcases hat with e | e
    · exact .inl (e.symm.trans rfl)
    · right
      have e : some gg = _ := e
      have := Option.some.inj e
      omega
  have st : Step F2 W (fun k => k = gg) w' := ⟨⟨⟨hg.os, hg.tape, hg.output⟩, hg.size, fun k hk hn => hg.block k hk (fun e => hn ((hown2 k).2 e.symm))⟩, fun k hk => by
    subst hk
    exact hf.imp (fun e => (hown2 _).2 e) id⟩
  obtain ⟨j1, j2, j3⟩ := st.apart (oa.lt k1) (fun k hk hf => k3 k hf hk)
  refine h gg cap w' ⟨fun k => F1 k ∨ k = gg, ⟨F1, fun k => k = gg, oa.same k1 j1, ⟨?_, fun k => ⟨fun e => by rw [e]; rfl, fun e => ?_⟩⟩, fun k hk hf => j2 k hf hk, fun _ => Iff.rfl⟩, ?_⟩
  · show w'.ownsRow _ _ _ _ (Z ++ [_]).length _
    rw [List.length_append, hn, frCells_snoc]
    exact h1
  · have e : some gg = some k := e
    exact (Option.some.inj e).symm
  · have hF2 : ∀ k, F2 k → w0.heap.size ≤ k := fun k hk => k6 k ((k4 k).2 (.inr hk))
    obtain ⟨m1, m2⟩ := st.out k5 hF2
    refine ⟨m1, ?_⟩
    rintro k (hk | hk)
    · exact k6 k ((k4 k).2 (.inl hk))
    · exact m2 k hk
end
/-- the list as it reads -/
theorem fl_fms {w : World} {F : Nat → Prop} {v : Value} {Z : List (Fr × Value)} (h : FlF w F (v, Z)) (hz : ∀ z ∈ Z, Ints w z.2 z.1.2.2) : Fms w v (Z.map Prod.fst) ∧ CapOk v := by
  obtain ⟨hl, h1⟩ := h.1
  rcases h1 with ⟨e, h0⟩ | ⟨g, cap, cur, e, hb, hg, h1, h2, hs, ht⟩
  · have hz0 : Z = [] := List.eq_nil_of_length_eq_zero h0
    have e : v = .slice none 0 0 := e
    subst hz0 e
    exact ⟨Fms.nil w, CapOk.nil⟩
  · have e : v = .slice (some ⟨g, 0, none⟩) Z.length cap := e
    subst e
    refine ⟨⟨some ⟨g, 0, none⟩, cap, by rw [List.length_map], fun _ => ⟨g, 0, rfl, fun q f hq => ?_⟩⟩, _, _, _, rfl, h1, h2⟩
    rw [List.getElem?_map] at hq
    obtain ⟨z, hz1, rfl⟩ := Option.map_eq_some_iff.1 hq
    obtain ⟨c0, c1, c2⟩ := frCells_get Z q z hz1
    have hR := Row.of_owns h.1
    have hi := hz z (List.mem_of_getElem? hz1)
    obtain ⟨ra, rc, e2⟩ := hi.form
    rw [e2] at hi c2
    have cell : ∀ j u, (frCells Z)[j]? = some u → w.cell? ⟨g, 0 + j, none⟩ = some u := fun j u hj => by
      have hj2 : cur.toList[j]? = some u := by
        have h9 : (cur.toList.take (Z.length * 3))[j]? = some u := by rw [ht]; exact hj
        rw [List.getElem?_take] at h9
        split at h9
        · exact h9
        · cases h9
      have h8 : cur[j]? = some u := by simpa using hj2
      simp only [World.cell?, Nat.zero_add, hg]
      simpa using h8
    exact ⟨ra, _, rc, cell _ _ c0, cell _ _ c1, cell _ _ c2, hi.1⟩
end Go.Proofs.YtcekpngkfldgkaaGreatDoor

/- decode.Frames: the walk. -/
namespace Go.Proofs.YtcekpngkfldgkaaGreatDoor
set_option linter.unusedVariables false
set_option linter.unusedSimpArgs false
open Go.RowKit Go.Extern.Stop Go.Stop Go.Extern

theorem sqRun_path {σ : Type} {M : Mc σ} {key : Bool} {W H : Int} {ps : List Int} {qp : Int} : ∀ (n k : Nat) (zs : List Int) (s : Ms σ) {e : List (ByteArray × Int) × Int}, (sqRun M key W H ps qp n k zs s).1 = some e → e.1.length = 3
  | 0, _, _, _, _, h => by cases h
  | n + 1, k, zs, s, e, h => by
    obtain ⟨⟨⟨f, q⟩, s'⟩, e1⟩ : ∃ r, (sqP key 0 (blS 0)).run M s = r := ⟨_, rfl⟩
    cases f with
    | none =>
      rw [sqRun_ok e1] at h
      exact sqRun_path n (k + 1) _ _ h
    | some f =>
      rw [sqRun_bad e1] at h
      have hg := sq_got (M := M) key 0 (FullS.bl 0) s
      rw [e1] at hg
      rcases hg with ⟨_, _, e2⟩ | ⟨_, e2, -⟩
      · have e3 := Option.some.inj (Prod.mk.inj e2).1
        have e4 := Option.some.inj h
        rw [← e4, e3]
        rfl
      · cases (Prod.mk.inj e2).1
theorem dfr_path {k : Int} {bs : List Nat} {PW PH : Int} {ps : List Int} {W H : Int} {e : List (ByteArray × Int) × Int} (h : (dfrV k bs PW PH ps W H).1 = some e) : e.1.length ≤ 3 := by
  unfold dfrV at h
  split at h
  · rw [← Option.some.inj h]; decide
  · split at h
    · rw [← Option.some.inj h]; exact Nat.zero_le _
    · split at h
      · rw [← Option.some.inj h]; exact Nat.zero_le _
      · split at h
        · cases h
        · split at h
          · cases h
          · unfold frOf at h
            split at h
            · cases h
            · rename_i e2 he2
              have e3 := Option.some.inj h
              rw [← e3]
              exact Nat.le_of_eq (sqRun_path _ _ _ _ he2)
set_option maxRecDepth 20000 in
set_option maxHeartbeats 8000000 in
theorem dframes_any (L : List Cd) (v : Value) (W H : Int) (w : World) (h : Cds w v L) (hs : ∀ (q : Nat) (c : Cd), L[q]? = some c → c.2.length ≤ 1000000) (hlN : L.length ≤ 1000000) :
    Calls Tryz.prog 20 #[v, .int .i64 W, .int .i64 H] w (DfsP w (dfsV L W H)) := by
  obtain ⟨a, cap, rfl⟩ := h.form
  obtain ⟨n, hn⟩ : ∃ n, n = L.length := ⟨_, rfl⟩
  have HNL := Lib.hid hn
  by_cases hN : 16 < n
  · have t1 : (16 : Int) < (n : Int) := by omega
    have e1 : dfsV L W H = (long5, []) := by unfold dfsV; rw [if_pos (by rw [← hn]; exact hN)]
    rw [e1]
    rw [← hn] at h ⊢
    clear hn hs e1 h hlN
    go_enter Tryz.func20, Tryz.ntmps20
    go_wp2
    go_ret2
    exact ⟨_, _, rfl, Ext.refl _, ⟨Fms.nil _, CapOk.nil⟩, ErrIs.code (by decide)⟩
  · have t1 : ¬ (16 : Int) < (n : Int) := by omega
    obtain ⟨T, hT⟩ : ∃ T, dfsV L W H = T := ⟨_, rfl⟩
    have HT0 : Hid (T = dfsRun W H (L.drop 0) 0 fr00 (([] : List (Fr × Value)).map Prod.fst)) := by
      show _ = _
      rw [← hT]
      unfold dfsV
      rw [if_neg (by rw [← hn]; exact hN)]
      rfl
    rw [hT]
    rw [← hn] at h ⊢
    have hn16 : n ≤ 16 := by omega
    have HS := Lib.hid hs
    have HC := Lib.hid h
    have E1 : Ext w (w.alloc (.cells #[.int .i64 0, .int .i64 0, .slice none 0 0] 24)) := (Ext.refl w).alloc _
    have B1 : FbF w.heap.size (w.alloc (.cells #[.int .i64 0, .int .i64 0, .slice none 0 0] 24)) (fun k => k = w.heap.size) #[.int .i64 0, .int .i64 0, .slice none 0 0] := ⟨BoxIs.new w _ _, fun _ => Iff.rfl⟩
    have U1 := (((Uno.first (FlF.nil w) (Ext.refl w) (fun _ h => h.elim)).add FlF.obj E1 B1 (by rintro k rfl; exact Nat.le_refl _)).bag (FlF.obj.sep (FbF.obj _)) (P := fun _ => True) (fun _ => trivial))
    have HP0 : Hid (∀ W2, (fun _ : World => True) W2 → (∀ z ∈ ([] : List (Fr × Value)), Ints W2 z.2 z.1.2.2) ∧ Ints W2 (.slice none 0 0) fr00.2.2) := fun W2 _ => ⟨fun _ h => (List.not_mem_nil h).elim, Ints.nil W2⟩
    have HU1 := Lib.hid U1
    have UF := Lib.hid (fun k bs PW PH ps ca pa cn cc pn pc w hb hl hip => dframe_any k bs PW PH ps W H ca pa cn cc pn pc w hb hl hip)
    clear hn hs h hT hN hlN E1 B1 U1
    go_enter Tryz.func20, Tryz.ntmps20
    go_wp2_with fail
    go_loopw [9, 20] (fun fv iv wr => ∃ (i : Nat) (Z : List (Fr × Value)) (f : Fr) (pa : Option Addr) (pn pc : Nat) (P : World → Prop), i ≤ n ∧ iv = .int .i64 (i : Int) ∧ Hid (Z.length = i) ∧ Hid (Uno (Sep (Sep FlF (FbF w.heap.size)) HoF) w wr (((fv, Z), #[.int .i64 f.1, .int .i64 f.2.1, .slice pa pn pc]), P)) ∧ Hid (∀ W2, P W2 → (∀ z ∈ Z, Ints W2 z.2 z.1.2.2) ∧ Ints W2 (.slice pa pn pc) f.2.2) ∧ Hid (T = dfsRun W H (L.drop i) i f (Z.map Prod.fst))) (fun _ iv _ => n - (intOf iv).toNat)
    case atStart => exact ⟨0, [], fr00, none, 0, 0, fun _ => True, Nat.zero_le _, rfl, rfl, HU1, HP0, HT0⟩
    case round =>
      clear HU1 HP0 HT0
      obtain ⟨i, Z, f, pa, pn, pc, P, hi, rfl, HZ, HU, HP, HT⟩ := hrel
      by_cases hin : i < n
      · obtain ⟨c, hc⟩ : ∃ c, L[i]? = some c := ⟨_, List.getElem?_eq_getElem (by rw [← HNL.out]; exact hin)⟩
        obtain ⟨g0, o0, rfl⟩ := HC.out.had (by omega)
        obtain ⟨ca, cn, cc, k0, k1, k2, k3⟩ := (HC.out.ext HU.out.out).at hc
        have hcl := HS.out i c hc
        obtain ⟨fk, fbs⟩ := c
        dsimp only at k0 k1 k2 k3 hcl
        have hdr : L.drop i = (fk, fbs) :: L.drop (i + 1) := by
          have hlt := (List.getElem?_eq_some_iff.1 hc)
          obtain ⟨hlt, he⟩ := hlt
          rw [List.drop_eq_getElem_cons hlt, he]
        have B0 := fb_box HU.out
        have q0 := B0.cell (i := 0) (v := .int .i64 f.1) rfl
        have q1 := B0.cell (i := 1) (v := .int .i64 f.2.1) rfl
        have q2 := B0.cell (i := 2) (v := .slice pa pn pc) rfl
        obtain ⟨r, hr⟩ : ∃ r, dfrV fk fbs f.1 f.2.1 f.2.2 W H = r := ⟨_, rfl⟩
        have HBy : Hid (Bys wr (.slice ca cn cc) fbs) := ⟨k2, k3, by omega⟩
        have UF2 := Lib.hid (fun w2 (hb : Bys w2 (.slice ca cn cc) fbs) hip => UF.out fk fbs f.1 f.2.1 f.2.2 ca pa cn cc pn pc w2 hb hcl hip)
        rw [hr] at UF2
        have HPA : Hid (∀ e, r.1 = some e → e.1.length ≤ 3) := fun e h => dfr_path (by rw [hr]; exact h)
        obtain ⟨rf, f2, f2h, f2p⟩ := r
        have HTR : Hid (∀ i2, i2 = i → rf = none → T = dfsRun W H (L.drop (i2 + 1)) (i2 + 1) (f2, f2h, f2p) (Z.map Prod.fst ++ [(f2, f2h, f2p)])) := by
          rintro i2 rfl rfl
          rw [HT.out, hdr, dfsRun_ok hr]
        have HTB : Hid (∀ e, rf = some e → T = (some ((frsS, (i : Int)) :: e.1, e.2), [])) := by
          rintro e rfl
          rw [HT.out, hdr, dfsRun_bad hr]
        obtain ⟨fw, fh, fps⟩ := f
        dsimp only at q0 q1 q2 UF2
        clear hc k2 k3 hcl hdr hr HT
        have X2 := (Ext.refl wr).alloc (.cells #[.int .i64 fk, .slice ca cn cc] 63)
        have BC := BoxIs.new wr #[.int .i64 fk, .slice ca cn cc] 63
        have c0 := BC.cell (i := 0) (v := .int .i64 fk) rfl
        have c1 := BC.cell (i := 1) (v := .slice ca cn cc) rfl
        have q0' := X2.cell q0
        have q1' := X2.cell q1
        have q2' := X2.cell q2
        have HB2 := Lib.hid (HBy.out.ext X2)
        have HU2 := Lib.hid (bag_ext (FlF.obj.sep (FbF.obj w.heap.size)) HU.out X2)
        clear B0 BC X2 HBy HU
        go_wp2_with fail
        refine (UF2.out _ HB2.out (HP.out _ HU2.out.held).2).mono ?_; rintro e w4 ⟨fu, fx, X, rfl, hx4, hX, ho⟩
        obtain ⟨ua, uc, huf⟩ := ho.get.1.form
        obtain ⟨un, hun⟩ : ∃ z : Nat, z = f2p.length := ⟨_, rfl⟩
        obtain rfl : fu = .slice ua un uc := by rw [hun]; exact huf
        have hu4 := bag_add (FlF.obj.sep (FbF.obj w.heap.size)) HU2.out hx4 ho hX
        have B12 := BoxIs.new w4 #[.int .i64 f2, .int .i64 f2h, .slice ua un uc] 24
        have X5 := (Ext.refl w4).alloc (.cells #[.int .i64 f2, .int .i64 f2h, .slice ua un uc] 24)
        have hu5 := bag_add (FlF.obj.sep (FbF.obj w.heap.size)) hu4 X5 (HoF.box B12) (by rintro k rfl; exact Nat.le_refl _)
        have d0 := B12.cell (i := 0) (v := .int .i64 f2) rfl
        have d1 := B12.cell (i := 1) (v := .int .i64 f2h) rfl
        have d2 := B12.cell (i := 2) (v := .slice ua un uc) rfl
        obtain ⟨P5, hP5⟩ : ∃ z : World → Prop, z = fun W2 => (P W2 ∧ (Ints W2 (.slice ua un uc) f2p ∧ ErrIs W2 rf fx)) ∧ BoxIs W2 w4.heap.size #[.int .i64 f2, .int .i64 f2h, .slice ua un uc] 24 := ⟨_, rfl⟩
        have HP5 : Hid (∀ W2, P5 W2 → (P W2 ∧ (Ints W2 (.slice ua un uc) f2p ∧ ErrIs W2 rf fx)) ∧ BoxIs W2 w4.heap.size #[.int .i64 f2, .int .i64 f2h, .slice ua un uc] 24) := by subst hP5; exact fun W2 h => h
        have HU5 := Lib.hid (bag_imp hu5 (Q := P5) (by subst hP5; exact fun W2 h => h))
        have he := ho.get.2
        clear hu4 hu5 hP5 X5 B12 ho hX hx4 HU2 HB2 UF2 huf hun c0 c1 q0 q1 q2 q0' q1' q2' k0 k1
        cases rf with
        | some ee =>
          obtain ⟨xt, xv, rfl⟩ := ErrIs.ne he
          have hpa := HPA.out ee rfl
          clear he HTR UF
          go_wp2_with fail
          refine (in_hold frsS (i : Int) xt xv _).mono ?_; rintro e w7 ⟨x7, b7, rfl, hx7, hb7, ho7⟩
          have h5 := (HP5.out _ (HU5.out.ext ((FlF.obj.sep (FbF.obj w.heap.size)).sep HoF.obj) hx7).held).1.2.2
          have H7 : Hid (ErrIs w7 T.1 x7) := by
            show ErrIs _ _ _
            rw [HTB.out ee rfl]
            exact ⟨ho7.get _ _ h5.1, h5.2.1, by show ee.1.length + 1 ≤ 1000000; omega⟩
          have HF7 : Hid (Fms w7 (.slice none 0 0) T.2) := by
            show Fms _ _ _
            rw [HTB.out ee rfl]
            exact Fms.nil _
          have E7 := HU5.out.out.trans hx7
          clear ho7 hx7 hb7 h5 HU5 HP5 HTB HPA hpa d0 d1 d2
          go_wp2
          go_ret2
          exact ⟨_, _, rfl, E7, ⟨HF7.out, CapOk.nil⟩, H7.out⟩
        | none =>
          obtain rfl : fx = .nilIface := he
          have HTN := Lib.hid (HTR.out i rfl rfl)
          have hzl := HZ.out
          have hzb : i ≤ 1000000 := by omega
          clear HTR HTB HPA UF
          have HU6 := Lib.hid (Uno.assoc (bag_swap HU5.out))
          clear HU5
          go_wp2_with (at_builtin; refine push_fl ((FbF.obj w.heap.size).sep HoF.obj) rfl _ _ 33 rfl Tryz.underlying33 _ Z i f2 f2h f2p ua un uc _ hzl rfl HU6.out (by show Value.slice (some ⟨_, 0, none⟩) 1 1 = _; simp) hzb ?_; intro g7 cap7 w7 h7; have U7 := bag_swap (Uno.assoc h7); have B7 := (HP5.out _ U7.held).2; have e0 := B7.cell (i := 0) (v := .int .i64 f2) rfl; have e1 := B7.cell (i := 1) (v := .int .i64 f2h) rfl; have e2 := B7.cell (i := 2) (v := .slice ua un uc) rfl; have FB7 := fb_box U7; have s0 := FB7.cell (i := 0) (v := .int .i64 fw) rfl; have s1 := FB7.cell (i := 1) (v := .int .i64 fh) rfl; have s2 := FB7.cell (i := 2) (v := .slice pa pn pc) rfl; have t0 := FB7.free (i := 0); have t1' := FB7.free (i := 1); have t2 := FB7.free (i := 2); have HU7 := Lib.hid U7; clear U7 B7 FB7 h7)
          have U8 := fb_set FlF.obj (fb_set FlF.obj (fb_set FlF.obj HU7.out 0 (.int .i64 f2)) 1 (.int .i64 f2h)) 2 (.slice ua un uc)
          have HU8 := Lib.hid (bag_imp U8 (Q := fun W2 => P W2 ∧ Ints W2 (.slice ua un uc) f2p) (fun W2 h => ⟨(HP5.out W2 h).1.1, (HP5.out W2 h).1.2.1⟩))
          have HP8 : Hid (∀ W2, (P W2 ∧ Ints W2 (.slice ua un uc) f2p) → (∀ z ∈ Z ++ [((f2, f2h, f2p), Value.slice ua un uc)], Ints W2 z.2 z.1.2.2) ∧ Ints W2 (.slice ua un uc) f2p) := fun W2 h => ⟨fun z hz => by
            rcases List.mem_append.1 hz with hz | hz
            · exact (HP.out W2 h.1).1 z hz
            · rw [List.mem_singleton.1 hz]
              exact h.2, h.2⟩
          have HZ8 : Hid ((Z ++ [((f2, f2h, f2p), Value.slice ua un uc)]).length = i + 1) := by show _ = _; rw [List.length_append, hzl]; rfl
          have HT8 : Hid (T = dfsRun W H (L.drop (i + 1)) (i + 1) (f2, f2h, f2p) ((Z ++ [((f2, f2h, f2p), Value.slice ua un uc)]).map Prod.fst)) := by show _ = _; rw [List.map_append]; exact HTN.out
          clear U8 HU7 HU6 HP HP5 HTN hzl hzb d0 d1 d2 e0 e1 e2 s0 s1 s2 t0 t1' t2
          go_roundw
          case rel => first | exact ⟨i + 1, _, (f2, f2h, f2p), ua, un, uc, _, by omega, by go_num, HZ8, HU8, HP8, HT8⟩ | ((repeat apply Exists.intro); exact ⟨⟨i + 1, _, (f2, f2h, f2p), ua, un, uc, _, by omega, by go_num, HZ8, HU8, HP8, HT8⟩, rfl⟩)
          case measure => simp [intOf]; omega
      · obtain rfl : i = n := by omega
        obtain ⟨F, ⟨F1, F2, ⟨G1, G2, k1, k2⟩, k3, k4⟩, k5⟩ := HU.out
        have HF := Lib.hid (fl_fms k1 (HP.out _ k3.get).1)
        clear k1 k2 k3 k4 k5
        have HTE : Hid (T = (none, Z.map Prod.fst)) := by
          show _ = _
          rw [HT.out, List.drop_eq_nil_of_le (by rw [← HNL.out]; exact Nat.le_refl _)]
          rfl
        have E7 := HU.out.out
        clear HU HP HT
        go_wp2
        go_ret2
        exact ⟨_, _, rfl, E7, by rw [HTE.out]; exact HF.out, by rw [HTE.out]; exact rfl⟩
end Go.Proofs.YtcekpngkfldgkaaGreatDoor

/- kinlaw21.few; what a frame that was decoded is: plain. -/
namespace Go.Proofs.YtcekpngkfldgkaaGreatDoor
set_option linter.unusedVariables false
set_option linter.unusedSimpArgs false
open Go.RowKit Go.Extern.Stop Go.Stop Go.Extern

def cdN (L : List Cd) : Nat → Int
  | 0 => 0
  | k + 1 => cdN L k + min (((L.getD k (0, [])).2.length : Nat) : Int) 20001
theorem cdN_bound (L : List Cd) (k : Nat) : 0 ≤ cdN L k ∧ cdN L k ≤ 20001 * k := by
  induction k with
  | zero => simp [cdN]
  | succ k ih => unfold cdN; push_cast; omega
theorem cdN_mono (L : List Cd) {i j : Nat} (h : i ≤ j) : cdN L i ≤ cdN L j := by
  obtain ⟨d, rfl⟩ := Nat.le.dest h
  clear h
  induction d with
  | zero => exact Int.le_refl _
  | succ d ih => rw [← Nat.add_assoc]; show cdN L i ≤ cdN L (i + d) + min _ _; omega
def fewC (L : List Cd) : Bool := decide (L.length ≤ 40) && decide (cdN L (min L.length 40) ≤ 20000)
def fewF (L : List Cd) (M : List Fr) : Bool := fewC L && pixB M
theorem fewC_out {L : List Cd} (h : fewC L = true) : L.length ≤ 40 ∧ ∀ (q : Nat) (c : Cd), L[q]? = some c → c.2.length ≤ 20000 := by
  unfold fewC at h
  rw [Bool.and_eq_true, decide_eq_true_eq, decide_eq_true_eq] at h
  refine ⟨h.1, fun q c hq => ?_⟩
  have hlt := (List.getElem?_eq_some_iff.1 hq).1
  have h1 := cdN_mono L (show q + 1 ≤ min L.length 40 by omega)
  have h2 := (cdN_bound L q).1
  have e : cdN L (q + 1) = cdN L q + min ((c.2.length : Nat) : Int) 20001 := by show cdN L q + _ = _; rw [List.getD, hq]; rfl
  omega
theorem pixB_out {M : List Fr} (h : pixB M = true) : M.length ≤ 40 ∧ ∀ (q : Nat) (f : Fr), M[q]? = some f → f.2.2.length ≤ 20000 := by
  have mono : ∀ {i j : Nat}, i ≤ j → pixN M i ≤ pixN M j := fun {i j} h => by
    obtain ⟨d, rfl⟩ := Nat.le.dest h
    clear h
    induction d with
    | zero => exact Int.le_refl _
    | succ d ih => rw [← Nat.add_assoc]; show pixN M i ≤ pixN M (i + d) + min _ _; omega
  unfold pixB at h
  rw [Bool.and_eq_true, decide_eq_true_eq, decide_eq_true_eq] at h
  refine ⟨h.1, fun q c hq => ?_⟩
  have hlt := (List.getElem?_eq_some_iff.1 hq).1
  have h1 := mono (show q + 1 ≤ min M.length 40 by omega)
  have h2 := (pixN_bound M q).1
  have e : pixN M (q + 1) = pixN M q + min ((c.2.2.length : Nat) : Int) 20001 := by show pixN M q + _ = _; rw [List.getD, hq]; rfl
  omega
set_option maxRecDepth 20000 in
set_option maxHeartbeats 2000000 in
theorem few21_any (L : List Cd) (M : List Fr) (v u : Value) (w : World) (h : Cds w v L) (hM : Fms w u M) (hml : M.length ≤ 1000000) :
    Calls Tryz.prog 18 #[v, u] w fun e w' => e = .returned (.bool (fewF L M)) ∧ Ext w w' := by
  obtain ⟨a, cap, rfl⟩ := h.form
  obtain ⟨n, hn⟩ : ∃ n, n = L.length := ⟨_, rfl⟩
  have HN := Lib.hid hn
  have UP := Lib.hid (fun W' (k : Ext w W') => pix_any M u W' (hM.ext k) hml)
  rw [← hn] at h ⊢
  have AG := Lib.hid h.had
  clear hn hM hml
  have r2 := mn2
  go_enter Tryz.func18, Tryz.ntmps18
  go_wp2
  go_loopw [5, 6] (fun sv iv wr => ∃ k : Nat, k ≤ n ∧ k ≤ 40 ∧ iv = .int .i64 k ∧ sv = .int .i64 (cdN L k) ∧ Ext w wr) (fun _ iv _ => n - (intOf iv).toNat)
  case atStart => exact ⟨0, Nat.zero_le _, by omega, rfl, rfl, Ext.refl _⟩
  case round =>
    obtain ⟨k, hk, hk2, rfl, rfl, hE⟩ := hrel
    have b0 := cdN_bound L k
    by_cases hlt : k < n
    · by_cases h40 : k < 40
      · obtain ⟨g, off, rfl⟩ := AG.out (by omega)
        obtain ⟨f, hf⟩ : ∃ f, L[k]? = some f := ⟨_, List.getElem?_eq_getElem (by rw [← HN.out]; exact hlt)⟩
        obtain ⟨ra, rn, rc, c0, c1, c2, c3⟩ := (h.at hf).ext hE
        obtain ⟨ra', rc', e⟩ := c2.form
        simp only [Value.slice.injEq] at e
        obtain ⟨rfl, rfl, rfl⟩ := e
        have HS : Hid (cdN L (k + 1) = cdN L k + min ((f.2.length : Nat) : Int) 20001) := by show cdN L k + _ = _; rw [List.getD, hf]; rfl
        have bl : (0 : Int) ≤ (f.2.length : Int) := by omega
        clear c2 c3 hf
        revert HS b0 c1 bl
        generalize cdN L k = s
        generalize f.2.length = m
        intro b0 c1 HS bl
        have e1 : IntKind.i64.wrap (s + min (m : Int) 20001) = s + min (m : Int) 20001 := by rw [IntKind.wrap_i64]; omega
        go_wp2
        go_roundw
        case rel => exact ⟨k + 1, by omega, by omega, by go_num, by rw [HS.out], hE⟩
        case measure => simp [intOf]; omega
      · have h41 : ¬ n ≤ 40 := by omega
        have HR : Hid (fewF L M = false) := by show _ = _; unfold fewF fewC; rw [← HN.out]; simp [h41]
        have k1 : (40 : Int) < (n : Int) := by omega
        clear h41 b0
        go_wp2
        go_ret
        exact ⟨by rw [HR.out]; rfl, hE⟩
    · have h41 : n ≤ 40 := by omega
      have HR : Hid (fewF L M = (decide (cdN L k ≤ 20000) && pixB M)) := by show _ = _; unfold fewF fewC; rw [← HN.out, show min n 40 = k by omega]; simp [h41]
      have k1 : (n : Int) ≤ 40 := by omega
      revert HR b0
      generalize cdN L k = s
      intro b0 HR
      clear h41
      by_cases hs : s ≤ 20000
      · have t1 : decide (s ≤ 20000) = true := decide_eq_true hs
        go_wp2_with fail
        refine (UP.out _ hE).mono ?_; rintro e w2 ⟨rfl, hx2⟩
        have E2 := hE.trans hx2
        clear hE hx2 UP
        go_wp2
        go_ret
        exact ⟨by rw [HR.out, t1]; rfl, E2⟩
      · have t1 : decide (s ≤ 20000) = false := decide_eq_false hs
        go_wp2
        go_ret
        exact ⟨by rw [HR.out, t1]; rfl, hE⟩
/-- a frame that was decoded may be, and has these sides -/
theorem sqRun_may {σ : Type} {M : Mc σ} {key : Bool} {W H : Int} {ps : List Int} {qp : Int} (hp : key = false → may W H ps) : ∀ (n k : Nat) (zs : List Int) (s : Ms σ), may W H zs → k + n ≤ cntQ W H → (sqRun M key W H ps qp n k zs s).1 = none → may W H (sqRun M key W H ps qp n k zs s).2
  | 0, _, _, _, hm, _, _ => hm
  | n + 1, k, zs, s, hm, hk, h => by
    obtain ⟨⟨⟨f, q⟩, s'⟩, e1⟩ : ∃ r, (sqP key 0 (blS 0)).run M s = r := ⟨_, rfl⟩
    cases f with
    | some f => rw [sqRun_bad e1] at h; cases h
    | none =>
      rw [sqRun_ok e1] at h ⊢
      have hg := sq_got (M := M) key 0 (FullS.bl 0) s
      rw [e1] at hg
      have ha : askE key q = none := by
        rcases hg with ⟨_, _, e⟩ | ⟨q', e, h1, _⟩
        · cases (Prod.mk.inj e).1
        · obtain ⟨-, rfl⟩ := Prod.mk.inj e
          exact h1
      obtain ⟨o1, o2, o3⟩ := ask_out ha
      have hkey : q.k < 2 → key = false := by
        simp only [okK, Bool.and_eq_true, Bool.not_eq_true', decide_eq_true_eq, Bool.and_eq_false_iff, decide_eq_false_iff_not] at o1
        exact fun h => by rcases o1.2 with h1 | h1 <;> first | exact h1 | omega
      have b1 := sideB_true hm.1
      have b2 := sideB_true hm.2.1
      obtain ⟨Q, rfl⟩ : ∃ Q : Nat, W = ((8 * Q : Nat) : Int) := ⟨(W / 8).toNat, by omega⟩
      obtain ⟨R, rfl⟩ : ∃ R : Nat, H = ((8 * R : Nat) : Int) := ⟨(H / 8).toNat, by omega⟩
      refine sqRun_may hp n (k + 1) _ s' (bld_may hm ?_ (fun h => hp (hkey h))) (by omega) h
      rw [cnt_at] at hk
      have hQ : 0 < Q := by omega
      have hi : k % Q < Q := Nat.mod_lt _ hQ
      have hj : k / Q < R := by rw [Nat.div_lt_iff_lt_mul hQ, Nat.mul_comm]; omega
      have e : k = k / Q * Q + k % Q := by rw [Nat.mul_comm]; exact (Nat.div_add_mod k Q).symm
      obtain ⟨c1, c2⟩ := col_at (j := k / Q) hi
      rw [← e] at c1 c2
      rw [c1, c2]
      exact lies_sq hi hj
theorem dfr_good {k : Int} {bs : List Nat} {PW PH : Int} {ps : List Int} {W H : Int} {f : Fr} (h : dfrV k bs PW PH ps W H = (none, f)) : newOk W H 128 = true ∧ f.1 = W ∧ f.2.1 = H ∧ may W H f.2.2 := by
  unfold dfrV at h
  split at h
  · cases h
  · rename_i h1
    have h1 : newOk W H 128 = true := by simpa using h1
    refine ⟨h1, ?_⟩
    split at h
    · cases h
    · rename_i h2
      have h2 : rdC k bs = 0 := by simpa using h2
      obtain ⟨k1, k4, -⟩ := rd_kind h2
      split at h
      · cases h
      · rename_i h3
        split at h
        · have e := (Prod.mk.inj h).2
          subst e
          exact ⟨rfl, rfl, grey_may h1⟩
        · rename_i h4
          split at h
          · rename_i h5
            have e := (Prod.mk.inj h).2
            subst e
            have hln : leanP PW PH ps W H := Classical.byContradiction (fun hn => h3 ⟨.inr h5, hn⟩)
            exact ⟨hln.2.1, hln.2.2, by rw [← hln.2.1, ← hln.2.2]; exact hln.1⟩
          · rename_i h5
            obtain ⟨⟨tf, tz⟩, hT⟩ : ∃ r, sqRun (mD bs.tail) (decide (k = 1)) W H ps ((bs.headD 0 : Nat) : Int) (cntQ W H) 0 (greyL W H) ⟨ch0, newD bs.tail⟩ = r := ⟨_, rfl⟩
            have hm := sqRun_may (M := mD bs.tail) (key := decide (k = 1)) (W := W) (H := H) (ps := ps) (qp := ((bs.headD 0 : Nat) : Int)) (fun hk => by
              have hk1 : ¬ k = 1 := of_decide_eq_false hk
              have hln : leanP PW PH ps W H := Classical.byContradiction (fun hn => h3 ⟨.inl (by omega), hn⟩)
              rw [← hln.2.1, ← hln.2.2]; exact hln.1) (cntQ W H) 0 (greyL W H) ⟨ch0, newD bs.tail⟩ (grey_may h1) (by omega)
            rw [hT] at h hm
            cases tf with
            | some e => cases h
            | none =>
              have e := (Prod.mk.inj h).2
              subst e
              exact ⟨rfl, rfl, hm rfl⟩
/-- the codes of a frame that can't be decoded -/
theorem sqRun_code {σ : Type} {M : Mc σ} {key : Bool} {W H : Int} {ps : List Int} {qp : Int} : ∀ (n k : Nat) (zs : List Int) (s : Ms σ) {e : List (ByteArray × Int) × Int}, (sqRun M key W H ps qp n k zs s).1 = some e → e.2 = 3
  | 0, _, _, _, _, h => by cases h
  | n + 1, k, zs, s, e, h => by
    obtain ⟨⟨⟨f, q⟩, s'⟩, e1⟩ : ∃ r, (sqP key 0 (blS 0)).run M s = r := ⟨_, rfl⟩
    cases f with
    | none =>
      rw [sqRun_ok e1] at h
      exact sqRun_code n (k + 1) _ _ h
    | some f =>
      rw [sqRun_bad e1] at h
      have hg := sq_got (M := M) key 0 (FullS.bl 0) s
      rw [e1] at hg
      rcases hg with ⟨_, _, e2⟩ | ⟨_, e2, -⟩
      · have e3 := Option.some.inj (Prod.mk.inj e2).1
        have e4 := Option.some.inj h
        rw [← e4, e3]
      · cases (Prod.mk.inj e2).1
theorem dfr_code {k : Int} {bs : List Nat} {PW PH : Int} {ps : List Int} {W H : Int} {e : List (ByteArray × Int) × Int} {f : Fr} (h : dfrV k bs PW PH ps W H = (some e, f)) : f = fr00 ∧ (e.2 = 3 ∨ e.2 = 13 ∨ e.2 = 12 ∨ e.2 = 2 ∨ e.2 = 1 ∨ e.2 = 5) := by
  unfold dfrV at h
  split at h
  · obtain ⟨h1, h2⟩ := Prod.mk.inj h
    rw [← Option.some.inj h1]
    exact ⟨h2.symm, .inl rfl⟩
  · split at h
    · rename_i h0
      obtain ⟨h1, h2⟩ := Prod.mk.inj h
      rw [← Option.some.inj h1]
      refine ⟨h2.symm, ?_⟩
      show rdC k bs = 3 ∨ rdC k bs = 13 ∨ rdC k bs = 12 ∨ rdC k bs = 2 ∨ rdC k bs = 1 ∨ rdC k bs = 5
      unfold rdC at h0 ⊢
      split
      · exact .inr (.inl rfl)
      · split
        · split
          · exact .inr (.inr (.inr (.inl rfl)))
          · rename_i h3 h4 h5
            rw [if_neg h3, if_pos h4, if_neg h5] at h0
            exact absurd rfl h0
        · split
          · exact .inr (.inr (.inr (.inr (.inl rfl))))
          · split
            · exact .inl rfl
            · split
              · exact .inr (.inr (.inr (.inr (.inr rfl))))
              · rename_i h3 h4 h5 h6 h7
                rw [if_neg h3, if_neg h4, if_neg h5, if_neg h6, if_neg h7] at h0
                exact absurd rfl h0
    · split at h
      · obtain ⟨h1, h2⟩ := Prod.mk.inj h
        rw [← Option.some.inj h1]
        exact ⟨h2.symm, .inr (.inr (.inl rfl))⟩
      · split at h
        · cases (Prod.mk.inj h).1
        · split at h
          · cases (Prod.mk.inj h).1
          · unfold frOf at h
            split at h
            · cases (Prod.mk.inj h).1
            · rename_i e2 he2
              obtain ⟨h1, h2⟩ := Prod.mk.inj h
              have e3 := Option.some.inj h1
              rw [← e3]
              exact ⟨h2.symm, .inl (sqRun_code _ _ _ _ he2)⟩
end Go.Proofs.YtcekpngkfldgkaaGreatDoor

