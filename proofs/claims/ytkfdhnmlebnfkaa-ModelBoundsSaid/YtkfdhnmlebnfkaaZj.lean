/- Contracts of this seat: Md5, Md6, OpM. -/
import Derived.Test.YtkfdhnmlebnfkaaMd4
import Derived.Test.YtkfdhnmlebnfkaaZb
import Derived.Test.YtkfdhnmlebnfkaaZi
import Derived.Deep.Slices
import Derived.Deep.Grids
/- kinlaw13.asks with a writer and with a reader: contracts over this seat's translation. -/
namespace Go.Proofs.Ytkfdhnmlebnfkaa
set_option linter.unusedVariables false
set_option linter.unusedSimpArgs false
open Go.RowKit Go.Extern.Stop Go.Stop Go.Extern

theorem mflag_any (b : Bool) (w : World) : Calls Try.prog 18 #[.bool b] w fun e w' => e = .returned (.int .i64 (flg b)) ∧ w = w' := by
  cases b
  all_goals (
    go_enter Try.func18, Try.ntmps18
    go_wp2
    go_ret
    exact ⟨rfl, rfl⟩)
set_option maxRecDepth 20000 in
set_option maxHeartbeats 4000000 in
theorem mwask_any (a N : Nat)  (o : Mo) (s : Ms Ec) (F : Nat → Prop) (w : World) (h : (WrF a) w F s) (hk : okS okEm N s) (hN : N ≤ 899000) : Calls Try.prog 10 #[.iface 42 (.pointer (some ⟨a, 0, none⟩)), .agg #[.int .i64 o.k, .int .i64 o.c, .int .i64 o.v, .bool o.b]] w (FPost (WrF a) F w (.int .i64 (askM mE s o).1) (askM mE s o).2) := by
  have HM := mw_bit a
  have HF := mw_fla a
  obtain ⟨k, c, v, b⟩ := o
  show Calls Try.prog 10 #[_, .agg #[.int .i64 k, .int .i64 c, .int .i64 v, .bool b]] w _
  have A := (Ext.refl w).alloc (.cells #[.int .i64 k, .int .i64 c, .int .i64 v, .bool b] 32)
  have UB := Lib.hid ((fun N c up s F w h hk hN => mwbit_any a N c up s F w h hk hN) N c b s F _ (h.ext A) hk (by omega))
  have UF := Lib.hid ((fun N up s F w h hk hN => mwflat_any a N up s F w h hk hN) N b s F _ (h.ext A) hk (by omega))
  have UK := Lib.hid (mwkind_any a N  v s F _ (h.ext A) hk hN)
  have UM := Lib.hid (mwmode_any a N  v s F _ (h.ext A) hk hN)
  have UP := Lib.hid (mwpart_any a N  v s F _ (h.ext A) hk hN)
  have HA := Lib.hid (Step.of_ext (F := F) A)
  by_cases h0 : k = 0
  · have t0 : (k == 0) = true := by rw [beq_iff_eq]; exact h0
    have HR : Hid (askM mE s ⟨k, c, v, b⟩ = (flg (bitM mE s c b).1, (bitM mE s c b).2)) := if_pos h0
    rw [HR.out]
    obtain ⟨⟨V, s1⟩, e1⟩ : ∃ r, bitM mE s c b = r := ⟨_, rfl⟩
    rw [e1] at UB ⊢
    have UG := Lib.hid (mflag_any V)
    clear h hk e1 h0 A
    go_enter Try.func10, Try.ntmps10
    go_wp2_with fail
    refine (UB.out).mono ?_; rintro e w1 ⟨rfl, F1, h1, g1⟩
    have H1 := Lib.hid h1
    have G1 := Lib.hid (HA.out.trans g1)
    clear h1 g1
    go_wp2_with fail
    refine (UG.out _).mono ?_; rintro e w2 ⟨rfl, rfl⟩
    go_wp2
    go_ret
    exact ⟨rfl, F1, H1.out, G1.out⟩
  have t0 : (k == 0) = false := by rw [beq_eq_false_iff_ne]; exact h0
  by_cases h1 : k = 1
  · have t1 : (k == 1) = true := by rw [beq_iff_eq]; exact h1
    have HR : Hid (askM mE s ⟨k, c, v, b⟩ = (flg (flaM mE s b).1, (flaM mE s b).2)) := (if_neg h0).trans (if_pos h1)
    rw [HR.out]
    obtain ⟨⟨V, s1⟩, e1⟩ : ∃ r, flaM mE s b = r := ⟨_, rfl⟩
    rw [e1] at UF ⊢
    have UG := Lib.hid (mflag_any V)
    clear h hk e1 h0 h1 A
    go_enter Try.func10, Try.ntmps10
    go_wp2_with fail
    refine (UF.out).mono ?_; rintro e w1 ⟨rfl, F1, h1, g1⟩
    have H1 := Lib.hid h1
    have G1 := Lib.hid (HA.out.trans g1)
    clear h1 g1
    go_wp2_with fail
    refine (UG.out _).mono ?_; rintro e w2 ⟨rfl, rfl⟩
    go_wp2
    go_ret
    exact ⟨rfl, F1, H1.out, G1.out⟩
  have t1 : (k == 1) = false := by rw [beq_eq_false_iff_ne]; exact h1
  by_cases h2 : k = 2
  · have t2 : (k == 2) = true := by rw [beq_iff_eq]; exact h2
    have HR : Hid (askM mE s ⟨k, c, v, b⟩ = (((kindM mE s v).1 : Int), (kindM mE s v).2)) := (if_neg h0).trans ((if_neg h1).trans (if_pos h2))
    rw [HR.out]
    obtain ⟨⟨V, s1⟩, e1⟩ : ∃ r, kindM mE s v = r := ⟨_, rfl⟩
    rw [e1] at UK ⊢
    clear h hk e1 h0 h1 h2 A
    go_enter Try.func10, Try.ntmps10
    go_wp2_with fail
    refine (UK.out).mono ?_; rintro e w1 ⟨rfl, F1, h1, g1⟩
    have H1 := Lib.hid h1
    have G1 := Lib.hid (HA.out.trans g1)
    clear h1 g1
    go_wp2
    go_ret
    exact ⟨rfl, F1, H1.out, G1.out⟩
  have t2 : (k == 2) = false := by rw [beq_eq_false_iff_ne]; exact h2
  by_cases h3 : k = 3
  · have t3 : (k == 3) = true := by rw [beq_iff_eq]; exact h3
    have HR : Hid (askM mE s ⟨k, c, v, b⟩ = (((modeM mE s (cl3 v)).1 : Int), (modeM mE s (cl3 v)).2)) := (if_neg h0).trans ((if_neg h1).trans ((if_neg h2).trans (if_pos h3)))
    rw [HR.out]
    obtain ⟨⟨V, s1⟩, e1⟩ : ∃ r, modeM mE s (cl3 v) = r := ⟨_, rfl⟩
    rw [e1] at UM ⊢
    clear h hk e1 h0 h1 h2 h3 A
    go_enter Try.func10, Try.ntmps10
    go_wp2_with fail
    refine (UM.out).mono ?_; rintro e w1 ⟨rfl, F1, h1, g1⟩
    have H1 := Lib.hid h1
    have G1 := Lib.hid (HA.out.trans g1)
    clear h1 g1
    go_wp2
    go_ret
    exact ⟨rfl, F1, H1.out, G1.out⟩
  have t3 : (k == 3) = false := by rw [beq_eq_false_iff_ne]; exact h3
  have HR : Hid (askM mE s ⟨k, c, v, b⟩ = partM mE s (cl15 v)) := (if_neg h0).trans ((if_neg h1).trans ((if_neg h2).trans (if_neg h3)))
  rw [HR.out]
  obtain ⟨⟨V, s1⟩, e1⟩ : ∃ r, partM mE s (cl15 v) = r := ⟨_, rfl⟩
  rw [e1] at UP ⊢
  clear h hk e1 h0 h1 h2 h3 A
  go_enter Try.func10, Try.ntmps10
  go_wp2_with fail
  refine (UP.out).mono ?_; rintro e w1 ⟨rfl, F1, h1, g1⟩
  have H1 := Lib.hid h1
  have G1 := Lib.hid (HA.out.trans g1)
  clear h1 g1
  go_wp2
  go_ret
  exact ⟨rfl, F1, H1.out, G1.out⟩
set_option maxRecDepth 20000 in
set_option maxHeartbeats 4000000 in
theorem mrask_any (a N : Nat) (bs : List Nat) (hb : ∀ x ∈ bs, x < 256) (o : Mo) (s : Ms Dc) (F : Nat → Prop) (w : World) (h : (RdF a bs) w F s) (hk : okS okDm N s) (hN : N ≤ 899000) : Calls Try.prog 10 #[.iface 26 (.pointer (some ⟨a, 0, none⟩)), .agg #[.int .i64 o.k, .int .i64 o.c, .int .i64 o.v, .bool o.b]] w (FPost (RdF a bs) F w (.int .i64 (askM (mD bs) s o).1) (askM (mD bs) s o).2) := by
  have HM := mr_bit a
  have HF := mr_fla a
  obtain ⟨k, c, v, b⟩ := o
  show Calls Try.prog 10 #[_, .agg #[.int .i64 k, .int .i64 c, .int .i64 v, .bool b]] w _
  have A := (Ext.refl w).alloc (.cells #[.int .i64 k, .int .i64 c, .int .i64 v, .bool b] 32)
  have UB := Lib.hid ((fun N c up s F w h hk hN => mrbit_any a N bs c up s F w h hk hN) N c b s F _ (h.ext A) hk (by omega))
  have UF := Lib.hid ((fun N up s F w h hk hN => mrflat_any a N bs up s F w h hk hN) N b s F _ (h.ext A) hk (by omega))
  have UK := Lib.hid (mrkind_any a N bs hb v s F _ (h.ext A) hk hN)
  have UM := Lib.hid (mrmode_any a N bs hb v s F _ (h.ext A) hk hN)
  have UP := Lib.hid (mrpart_any a N bs hb v s F _ (h.ext A) hk hN)
  have HA := Lib.hid (Step.of_ext (F := F) A)
  by_cases h0 : k = 0
  · have t0 : (k == 0) = true := by rw [beq_iff_eq]; exact h0
    have HR : Hid (askM (mD bs) s ⟨k, c, v, b⟩ = (flg (bitM (mD bs) s c b).1, (bitM (mD bs) s c b).2)) := if_pos h0
    rw [HR.out]
    obtain ⟨⟨V, s1⟩, e1⟩ : ∃ r, bitM (mD bs) s c b = r := ⟨_, rfl⟩
    rw [e1] at UB ⊢
    have UG := Lib.hid (mflag_any V)
    clear h hk e1 h0 A
    go_enter Try.func10, Try.ntmps10
    go_wp2_with fail
    refine (UB.out).mono ?_; rintro e w1 ⟨rfl, F1, h1, g1⟩
    have H1 := Lib.hid h1
    have G1 := Lib.hid (HA.out.trans g1)
    clear h1 g1
    go_wp2_with fail
    refine (UG.out _).mono ?_; rintro e w2 ⟨rfl, rfl⟩
    go_wp2
    go_ret
    exact ⟨rfl, F1, H1.out, G1.out⟩
  have t0 : (k == 0) = false := by rw [beq_eq_false_iff_ne]; exact h0
  by_cases h1 : k = 1
  · have t1 : (k == 1) = true := by rw [beq_iff_eq]; exact h1
    have HR : Hid (askM (mD bs) s ⟨k, c, v, b⟩ = (flg (flaM (mD bs) s b).1, (flaM (mD bs) s b).2)) := (if_neg h0).trans (if_pos h1)
    rw [HR.out]
    obtain ⟨⟨V, s1⟩, e1⟩ : ∃ r, flaM (mD bs) s b = r := ⟨_, rfl⟩
    rw [e1] at UF ⊢
    have UG := Lib.hid (mflag_any V)
    clear h hk e1 h0 h1 A
    go_enter Try.func10, Try.ntmps10
    go_wp2_with fail
    refine (UF.out).mono ?_; rintro e w1 ⟨rfl, F1, h1, g1⟩
    have H1 := Lib.hid h1
    have G1 := Lib.hid (HA.out.trans g1)
    clear h1 g1
    go_wp2_with fail
    refine (UG.out _).mono ?_; rintro e w2 ⟨rfl, rfl⟩
    go_wp2
    go_ret
    exact ⟨rfl, F1, H1.out, G1.out⟩
  have t1 : (k == 1) = false := by rw [beq_eq_false_iff_ne]; exact h1
  by_cases h2 : k = 2
  · have t2 : (k == 2) = true := by rw [beq_iff_eq]; exact h2
    have HR : Hid (askM (mD bs) s ⟨k, c, v, b⟩ = (((kindM (mD bs) s v).1 : Int), (kindM (mD bs) s v).2)) := (if_neg h0).trans ((if_neg h1).trans (if_pos h2))
    rw [HR.out]
    obtain ⟨⟨V, s1⟩, e1⟩ : ∃ r, kindM (mD bs) s v = r := ⟨_, rfl⟩
    rw [e1] at UK ⊢
    clear h hk e1 h0 h1 h2 A
    go_enter Try.func10, Try.ntmps10
    go_wp2_with fail
    refine (UK.out).mono ?_; rintro e w1 ⟨rfl, F1, h1, g1⟩
    have H1 := Lib.hid h1
    have G1 := Lib.hid (HA.out.trans g1)
    clear h1 g1
    go_wp2
    go_ret
    exact ⟨rfl, F1, H1.out, G1.out⟩
  have t2 : (k == 2) = false := by rw [beq_eq_false_iff_ne]; exact h2
  by_cases h3 : k = 3
  · have t3 : (k == 3) = true := by rw [beq_iff_eq]; exact h3
    have HR : Hid (askM (mD bs) s ⟨k, c, v, b⟩ = (((modeM (mD bs) s (cl3 v)).1 : Int), (modeM (mD bs) s (cl3 v)).2)) := (if_neg h0).trans ((if_neg h1).trans ((if_neg h2).trans (if_pos h3)))
    rw [HR.out]
    obtain ⟨⟨V, s1⟩, e1⟩ : ∃ r, modeM (mD bs) s (cl3 v) = r := ⟨_, rfl⟩
    rw [e1] at UM ⊢
    clear h hk e1 h0 h1 h2 h3 A
    go_enter Try.func10, Try.ntmps10
    go_wp2_with fail
    refine (UM.out).mono ?_; rintro e w1 ⟨rfl, F1, h1, g1⟩
    have H1 := Lib.hid h1
    have G1 := Lib.hid (HA.out.trans g1)
    clear h1 g1
    go_wp2
    go_ret
    exact ⟨rfl, F1, H1.out, G1.out⟩
  have t3 : (k == 3) = false := by rw [beq_eq_false_iff_ne]; exact h3
  have HR : Hid (askM (mD bs) s ⟨k, c, v, b⟩ = partM (mD bs) s (cl15 v)) := (if_neg h0).trans ((if_neg h1).trans ((if_neg h2).trans (if_neg h3)))
  rw [HR.out]
  obtain ⟨⟨V, s1⟩, e1⟩ : ∃ r, partM (mD bs) s (cl15 v) = r := ⟨_, rfl⟩
  rw [e1] at UP ⊢
  clear h hk e1 h0 h1 h2 h3 A
  go_enter Try.func10, Try.ntmps10
  go_wp2_with fail
  refine (UP.out).mono ?_; rintro e w1 ⟨rfl, F1, h1, g1⟩
  have H1 := Lib.hid h1
  have G1 := Lib.hid (HA.out.trans g1)
  clear h1 g1
  go_wp2
  go_ret
  exact ⟨rfl, F1, H1.out, G1.out⟩
end Go.Proofs.Ytkfdhnmlebnfkaa

/- Objects beside each other; a list of numbers of the call's own; kinlaw13.first. -/
namespace Go.Proofs.Ytkfdhnmlebnfkaa
set_option linter.unusedVariables false
set_option linter.unusedSimpArgs false
open Go.RowKit Go.Extern.Stop Go.Stop Go.Extern

structure Obj {σ : Type} (A : World → (Nat → Prop) → σ → Prop) : Prop where
  lt : ∀ {w F s}, A w F s → ∀ k, F k → k < w.heap.size
  same : ∀ {w w' F s}, A w F s → (∀ i, F i → w'.heap[i]? = w.heap[i]?) → A w' F s
theorem WrF.obj (a : Nat) : Obj (WrF a) := ⟨fun h => h.lt, fun h => h.same⟩
theorem RdF.obj (a : Nat) (bs : List Nat) : Obj (RdF a bs) := ⟨fun h => h.lt, fun h => h.same⟩
def Sep {σ τ : Type} (A : World → (Nat → Prop) → σ → Prop) (B : World → (Nat → Prop) → τ → Prop) (w : World) (F : Nat → Prop) (p : σ × τ) : Prop := ∃ F1 F2, A w F1 p.1 ∧ B w F2 p.2 ∧ (∀ k, F2 k → ¬ F1 k) ∧ ∀ k, F k ↔ (F1 k ∨ F2 k)
section
variable {σ τ : Type} {A : World → (Nat → Prop) → σ → Prop} {B : World → (Nat → Prop) → τ → Prop} {w0 w w' : World}
theorem Obj.sep (a : Obj A) (b : Obj B) : Obj (Sep A B) := ⟨fun ⟨F1, F2, h1, h2, _, h4⟩ k hk => ((h4 k).1 hk).elim (a.lt h1 k) (b.lt h2 k),
  fun ⟨F1, F2, h1, h2, h3, h4⟩ k => ⟨F1, F2, a.same h1 (fun i hi => k i ((h4 i).2 (.inl hi))), b.same h2 (fun i hi => k i ((h4 i).2 (.inr hi))), h3, h4⟩⟩
theorem sep_l (b : Obj B) {f : FuncId} {args : Array Value} {v : Value} {s' : σ} {p : σ × τ} {F : Nat → Prop} (h : Sep A B w F p) (c : ∀ G, A w G p.1 → Calls Try.prog f args w (FPost A G w v s')) : Calls Try.prog f args w (FPost (Sep A B) F w v (s', p.2)) := by
  obtain ⟨F1, F2, h1, h2, h3, h4⟩ := h
  refine (c F1 h1).mono ?_
  rintro e w' ⟨rfl, F', h', st⟩
  obtain ⟨k1, k2, k3⟩ := st.apart (b.lt h2) h3
  refine ⟨rfl, fun k => F' k ∨ F2 k, ⟨F', F2, h', b.same h2 k1, k2, fun _ => Iff.rfl⟩, ⟨st.1.1, st.1.2.1, fun k hk hn => st.1.2.2 k hk (fun hf => hn ((h4 k).2 (.inl hf)))⟩, ?_⟩
  rintro k (hk | hk)
  · exact (st.2 k hk).imp (fun h => (h4 k).2 (.inl h)) id
  · exact .inl ((h4 k).2 (.inr hk))
theorem sep_r (a : Obj A) {f : FuncId} {args : Array Value} {v : Value} {t' : τ} {p : σ × τ} {F : Nat → Prop} (h : Sep A B w F p) (c : ∀ G, B w G p.2 → Calls Try.prog f args w (FPost B G w v t')) : Calls Try.prog f args w (FPost (Sep A B) F w v (p.1, t')) := by
  obtain ⟨F1, F2, h1, h2, h3, h4⟩ := h
  refine (c F2 h2).mono ?_
  rintro e w' ⟨rfl, F', h', st⟩
  obtain ⟨k1, k2, k3⟩ := st.apart (a.lt h1) (fun k hk hf => h3 k hf hk)
  refine ⟨rfl, fun k => F1 k ∨ F' k, ⟨F1, F', a.same h1 k1, h', fun k hk hf => k2 k hf hk, fun _ => Iff.rfl⟩, ⟨st.1.1, st.1.2.1, fun k hk hn => st.1.2.2 k hk (fun hf => hn ((h4 k).2 (.inr hf)))⟩, ?_⟩
  rintro k (hk | hk)
  · exact .inl ((h4 k).2 (.inl hk))
  · exact (st.2 k hk).imp (fun h => (h4 k).2 (.inr h)) id
/-- an object that the call made -/
def Uno (A : World → (Nat → Prop) → σ → Prop) (w0 w : World) (s : σ) : Prop := ∃ F, A w F s ∧ Ext w0 w ∧ ∀ k, F k → w0.heap.size ≤ k
theorem Uno.call {f : FuncId} {args : Array Value} {v : Value} {s s' : σ} (h : Uno A w0 w s) (c : ∀ F, A w F s → Calls Try.prog f args w (FPost A F w v s')) : Calls Try.prog f args w fun e w' => e = .returned v ∧ Uno A w0 w' s' := by
  obtain ⟨F, h1, h2, h3⟩ := h
  refine (c F h1).mono ?_
  rintro e w' ⟨rfl, F', h', st⟩
  obtain ⟨k1, k2⟩ := st.out h2 h3
  exact ⟨rfl, F', h', k1, k2⟩
theorem Uno.ext (a : Obj A) {s : σ} (h : Uno A w0 w s) (k : Ext w w') : Uno A w0 w' s := by
  obtain ⟨F, h1, h2, h3⟩ := h
  exact ⟨F, a.same h1 (fun i hi => k.block (a.lt h1 i hi)), h2.trans k, h3⟩
theorem Uno.out {s : σ} (h : Uno A w0 w s) : Ext w0 w := by obtain ⟨F, h1, h2, h3⟩ := h; exact h2
theorem Uno.add (a : Obj A) {s : σ} {t : τ} {G : Nat → Prop} (h : Uno A w0 w s) (k : Ext w w') (hb : B w' G t) (hG : ∀ k, G k → w.heap.size ≤ k) : Uno (Sep A B) w0 w' (s, t) := by
  obtain ⟨F, h1, h2, h3⟩ := h
  refine ⟨fun i => F i ∨ G i, ⟨F, G, a.same h1 (fun i hi => k.block (a.lt h1 i hi)), hb, fun i hi hf => by have := a.lt h1 i hf; have := hG i hi; omega, fun _ => Iff.rfl⟩, h2.trans k, ?_⟩
  rintro i (hi | hi)
  · exact h3 i hi
  · exact Nat.le_trans h2.size (hG i hi)
theorem Uno.first {s : σ} {F : Nat → Prop} (h : A w F s) (k : Ext w0 w) (hF : ∀ k, F k → w0.heap.size ≤ k) : Uno A w0 w s := ⟨F, h, k, hF⟩
theorem Uno.l {p : σ × τ} (h : Uno (Sep A B) w0 w p) : ∃ G, A w G p.1 := by obtain ⟨_, ⟨F1, _, h1, _⟩, _⟩ := h; exact ⟨F1, h1⟩
theorem Uno.r {p : σ × τ} (h : Uno (Sep A B) w0 w p) : ∃ G, B w G p.2 := by obtain ⟨_, ⟨_, F2, _, h1, _⟩, _⟩ := h; exact ⟨F2, h1⟩
theorem Uno.get {s : σ} (h : Uno A w0 w s) : ∃ G, A w G s := by obtain ⟨F, h1, _⟩ := h; exact ⟨F, h1⟩
theorem Uno.pl (b : Obj B) {f : FuncId} {args : Array Value} {v : Value} {s' : σ} {s : σ} {t : τ} (h : Uno (Sep A B) w0 w (s, t)) (c : ∀ G, A w G s → Calls Try.prog f args w (FPost A G w v s')) : Calls Try.prog f args w fun e w' => e = .returned v ∧ Uno (Sep A B) w0 w' (s', t) := h.call (fun _ hF => sep_l b hF c)
theorem Uno.pr (a : Obj A) {f : FuncId} {args : Array Value} {v : Value} {t' : τ} {s : σ} {t : τ} (h : Uno (Sep A B) w0 w (s, t)) (c : ∀ G, B w G t → Calls Try.prog f args w (FPost B G w v t')) : Calls Try.prog f args w fun e w' => e = .returned v ∧ Uno (Sep A B) w0 w' (s, t') := h.call (fun _ hF => sep_r a hF c)
end
/-- numbers in a row of the call's own -/
def TlF (w : World) (F : Nat → Prop) (p : Value × List Int) : Prop := w.ownsRow 0 3 1 p.1 p.2.length (p.2.map (Value.int .i64)) ∧ ∀ k, F k ↔ p.1.ownBlock = some k
theorem TlF.obj : Obj TlF := ⟨fun h k hk => (h.1.lt k ((h.2 k).1 hk)).2, fun h k => ⟨own_block h.1 (fun g hg => k g ((h.2 g).2 hg)), h.2⟩⟩
theorem TlF.nil (w : World) : TlF w (fun _ => False) (.slice none 0 0, []) := ⟨World.ownsRow_nil _ _ _ _, fun k => ⟨False.elim, fun h => by simp [Value.ownBlock] at h⟩⟩
theorem TlF.form {w : World} {F : Nat → Prop} {v : Value} {L : List Int} (h : TlF w F (v, L)) : ∃ a c, v = .slice a L.length c := by
  rcases h.1.2 with ⟨e, h0⟩ | ⟨g, cap, cur, e, -⟩
  · have e : v = .slice none 0 0 := e
    have h0 : L.length = 0 := h0
    exact ⟨none, 0, by rw [e, h0]⟩
  · exact ⟨_, _, e⟩
theorem TlF.cell {w : World} {F : Nat → Prop} {v : Value} {L : List Int} {q : Nat} {x : Int} (h : TlF w F (v, L)) (hx : L[q]? = some x) : ∃ g cap, v = .slice (some ⟨g, 0, none⟩) L.length cap ∧ w.cell? ⟨g, q, none⟩ = some (.int .i64 x) := by
  have hq : q < L.length := (List.getElem?_eq_some_iff.1 hx).1
  rcases id h.1.2 with ⟨-, h0⟩ | ⟨g, cap, cur, e, -⟩
  · have h0 : L.length = 0 := h0
    omega
  · have e : v = .slice (some ⟨g, 0, none⟩) L.length cap := e
    subst e
    have hc := h.1.cells (g := g) rfl q (.int .i64 x) (by simp [hx])
    have e2 : (⟨g, 0, none⟩ : Addr).add q = ⟨g, q, none⟩ := by unfold Addr.add; split <;> simp_all
    rw [e2] at hc
    exact ⟨g, cap, rfl, hc⟩
theorem push_tl {σ : Type} {A : World → (Nat → Prop) → σ → Prop} (oa : Obj A) {w0 : World} {ops : Array Oper} {rest : List Oper} {o : Oper} {a : Act} {Q : Exit → Act → World → Prop} {W : World} (hgd : o.guard = none) (s y : Operand) (t : TypeId)
    (ho : o.op = .call { callee := .builtin .append, args := #[s, y], argTypes := #[t, t] }) (ht : Try.prog.underlying t = some (.slice 3))
    (v : Value) (L : List Int) (n : Nat) (x : Int) (u : σ) (hn : L.length = n) (hs : a.eval s = v) (hU : Uno (Sep A TlF) w0 W (u, (v, L))) (hx : a.eval y = .slice (some ⟨W.heap.size, 0, none⟩) 1 1) (hn9 : n ≤ 1000000000)
    (h : ∀ g cap w', Uno (Sep A TlF) w0 w' (u, (.slice (some ⟨g, 0, none⟩) (n + 1) cap, L ++ [x])) → wpList Try.prog ops Q rest (a.put o.dst (.slice (some ⟨g, 0, none⟩) (n + 1) cap)) w') :
    wpList Try.prog ops Q (o :: rest) a (W.alloc (.cells #[.int .i64 x] 3)) := by
  obtain ⟨i0, hi, hz0, hz1, hz2⟩ := info_parts infoInt
  obtain ⟨F, ⟨F1, F2, k1, k2, k3, k4⟩, k5, k6⟩ := hU
  have hown : W.ownsRow 0 3 1 v n (L.map (Value.int .i64)) := by have := k2.1; rw [hn] at this; exact this
  have hown2 : ∀ k, F2 k ↔ v.ownBlock = some k := k2.2
  refine wpList_append_own_at _ hgd s y t ho 0 3 i0 (.int .i64 0) 1 8 ht hi hz0 hz1 hz2 rfl (by decide) v n _ hs (hown.alloc _) ⟨W.heap.size, 0, none⟩ 1 1 [.int .i64 x] hx rfl (cell_one_new _ _ _) (one_int _) (by unfold maxLen; omega) (by omega) (Nat.zero_le _) ?_
  intro v' w' h1 h2 _ hat
  have g := World.grownBy_alloc W (.cells #[.int .i64 x] 3) v.ownBlock
  have hg : W.grownBy w' v.ownBlock := ⟨h2.os.trans g.os, h2.tape.trans g.tape, h2.output.trans g.output, Nat.le_trans g.size h2.size, fun k hk hne => (h2.block k (Nat.lt_of_lt_of_le hk g.size) hne).trans (g.block k hk hne)⟩
  obtain ⟨gg, cap, rfl⟩ : ∃ gg cap, v' = .slice (some ⟨gg, 0, none⟩) (n + 1) cap := by
    rcases h1.2 with ⟨-, h0⟩ | ⟨gg, cap, cur, e, -⟩
    · omega
    · exact ⟨gg, cap, e⟩
  have hf : v.ownBlock = some gg ∨ W.heap.size ≤ gg := by
    rcases hat with e | e
    · exact .inl (e.symm.trans rfl)
    · right
      have e : some gg = _ := e
      have := Option.some.inj e
      rw [this]
      exact g.size
  have st : Step F2 W (fun k => k = gg) w' := ⟨⟨⟨hg.os, hg.tape, hg.output⟩, hg.size, fun k hk hn => hg.block k hk (fun e => hn ((hown2 k).2 e.symm))⟩, fun k hk => by
    subst hk
    exact hf.imp (fun e => (hown2 _).2 e) id⟩
  obtain ⟨j1, j2, j3⟩ := st.apart (oa.lt k1) (fun k hk hf => k3 k hf hk)
  refine h gg cap w' ⟨fun k => F1 k ∨ k = gg, ⟨F1, fun k => k = gg, oa.same k1 j1, ⟨?_, fun k => ⟨fun e => by rw [e]; rfl, fun e => ?_⟩⟩, fun k hk hf => j2 k hf hk, fun _ => Iff.rfl⟩, ?_⟩
  · show w'.ownsRow _ _ _ _ (L ++ [x]).length _
    rw [List.length_append, hn, List.map_append]
    exact h1
  · have e : some gg = some k := e
    exact (Option.some.inj e).symm
  · have hF2 : ∀ k, F2 k → w0.heap.size ≤ k := fun k hk => k6 k ((k4 k).2 (.inr hk))
    obtain ⟨m1, m2⟩ := st.out k5 hF2
    refine ⟨m1, ?_⟩
    rintro k (hk | hk)
    · exact k6 k ((k4 k).2 (.inl hk))
    · exact m2 k hk
/-- what the chapter's examples fix -/
def f13 : Ms Ec := (bitM mE ⟨ch0, newE⟩ 0 false).2
def g13 : Ms Ec := (bitM mE f13 0 true).2
def h13 : Ms Ec := (kindM mE g13 7).2
def i13 : Ms Ec := (modeM mE h13 (cl3 (-1))).2
def j13 : Ms Dc := (kindM (mD []) ⟨ch0, newD []⟩ 3).2
def k13 : Ms Dc := (partM (mD []) j13 (cl15 9)).2
theorem v13 : chV f13.ch 0 = 1056 ∧ chV g13.ch 0 = 1023 ∧ (kindM mE g13 7).1 = 3 ∧ (modeM mE h13 (cl3 (-1))).1 = 0 ∧ (partM mE i13 (cl15 (-20))).1 = -15 ∧ (kindM (mD []) ⟨ch0, newD []⟩ 3).1 = 0 ∧ (partM (mD []) j13 (cl15 9)).1 = 0 ∧ ovrD [] k13.co = 4 := by decide +kernel
theorem okn13 : okS okEm 0 ⟨ch0, newE⟩ := ⟨ch0_ok, newE_ok, by decide⟩
theorem okd13 {bs : List Nat} (hb : ∀ x ∈ bs, x < 256) : okS okDm 4 ⟨ch0, newD bs⟩ := ⟨ch0_ok, (newD_ok hb).1, by rw [(newD_ok hb).2.1]; decide⟩
set_option maxHeartbeats 8000000 in
set_option maxRecDepth 20000 in
theorem first13_any (w : World) : Calls Try.prog 6 #[] w fun e w' => e = .returned (.bool true) ∧ Ext w w' := by
  obtain ⟨t1, t2, t3, t4, t5, t6, t7, t8⟩ := v13
  have HT1 := Lib.hid t1
  have HT2 := Lib.hid t2
  have HT3 := Lib.hid t3
  have HT4 := Lib.hid t4
  have HT5 := Lib.hid t5
  have HT6 := Lib.hid t6
  have HT7 := Lib.hid t7
  have HT8 := Lib.hid t8
  clear t1 t2 t3 t4 t5 t6 t7 t8
  have O1 := Lib.hid (bit_ok mkE 0 false okn13)
  have O2 := Lib.hid (bit_ok mkE 0 true O1.out)
  have O3 := Lib.hid (kind_ok mkE 7 O2.out)
  have O4 := Lib.hid (mode_ok mkE (cl3 (-1)) O3.out)
  have P0 := Lib.hid (okd13 (bs := []) (by simp))
  have P1 := Lib.hid (kind_ok (mkD (bs := []) (by simp)) 3 P0.out)
  have P2 := Lib.hid (part_ok (mkD (bs := []) (by simp)) (cl15 9) P1.out)
  go_enter Try.func6, Try.ntmps6
  go_wp2_with fail
  refine (mwnew_any _).mono ?_; rintro e w1 ⟨a, F, rfl, hF, hW, hx1⟩
  have H1 := Lib.hid (Uno.first hW hx1 hF)
  clear hW hx1 hF
  go_wp2_with fail
  refine (mrnew_any [] _ _ (Bys.nil _)).mono ?_; rintro e w2 ⟨d, G, rfl, hG, hR, hx2⟩
  have H2 := Lib.hid (H1.out.add (WrF.obj a) hx2 hR hG)
  clear hx2 hR hG H1
  go_wp2_with fail
  refine (H2.out.pl (RdF.obj d []) (fun G h => mwbit_any a 0 0 false _ G _ h okn13 (by omega))).mono ?_; rintro e w3 ⟨rfl, h⟩
  have H3 : Hid (Uno (Sep (WrF a) (RdF d [])) w w3 (f13, ⟨ch0, newD []⟩)) := h
  clear h H2
  obtain ⟨_, h⟩ := H3.out.l
  go_wp2_with fail
  refine (mwch_any a 0 f13.ch _ h.choose_spec.choose_spec.2.1).mono ?_; rintro e w4 ⟨rfl, rfl⟩
  rw [HT1.out]
  clear h
  go_wp2_with fail
  refine (H3.out.pl (RdF.obj d []) (fun G h => mwbit_any a 4 0 true _ G _ h O1.out (by omega))).mono ?_; rintro e w4 ⟨rfl, h⟩
  have H4 : Hid (Uno (Sep (WrF a) (RdF d [])) w w4 (g13, ⟨ch0, newD []⟩)) := h
  clear h H3
  obtain ⟨_, h⟩ := H4.out.l
  go_wp2_with fail
  refine (mwch_any a 0 g13.ch _ h.choose_spec.choose_spec.2.1).mono ?_; rintro e w5 ⟨rfl, rfl⟩
  rw [HT2.out]
  clear h
  go_wp2_with fail
  refine (H4.out.pl (RdF.obj d []) (fun G h => mwkind_any a 8 7 _ G _ h O2.out (by omega))).mono ?_; rintro e w5 ⟨rfl, h⟩
  have H5 : Hid (Uno (Sep (WrF a) (RdF d [])) w w5 (h13, ⟨ch0, newD []⟩)) := h
  clear h H4
  rw [HT3.out]
  go_wp2_with fail
  refine (H5.out.pl (RdF.obj d []) (fun G h => mwmode_any a 20 (-1) _ G _ h O3.out (by omega))).mono ?_; rintro e w6 ⟨rfl, h⟩
  have H6 : Hid (Uno (Sep (WrF a) (RdF d [])) w w6 (i13, ⟨ch0, newD []⟩)) := h
  clear h H5
  rw [HT4.out]
  go_wp2_with fail
  refine (H6.out.pl (RdF.obj d []) (fun G h => mwpart_any a 28 (-20) _ G _ h O4.out (by omega))).mono ?_; rintro e w7 ⟨rfl, h⟩
  have H7 := Lib.hid h
  clear h H6
  rw [HT5.out]
  go_wp2_with fail
  refine (H7.out.pr (WrF.obj a) (fun G h => mrkind_any d 4 [] (by simp) 3 _ G _ h P0.out (by omega))).mono ?_; rintro e w8 ⟨rfl, h⟩
  have H8 : Hid (Uno (Sep (WrF a) (RdF d [])) w w8 (_, j13)) := h
  clear h H7
  rw [HT6.out]
  go_wp2_with fail
  refine (H8.out.pr (WrF.obj a) (fun G h => mrpart_any d 16 [] (by simp) 9 _ G _ h P1.out (by omega))).mono ?_; rintro e w9 ⟨rfl, h⟩
  have H9 : Hid (Uno (Sep (WrF a) (RdF d [])) w w9 (_, k13)) := h
  clear h H8
  rw [HT7.out]
  obtain ⟨G9, h⟩ := H9.out.r
  go_wp2_with fail
  refine (mrover_any d 80 [] k13 G9 _ h P2.out (by omega) (by simp)).mono ?_; rintro e wa ⟨rfl, hxa⟩
  rw [HT8.out]
  go_wp2
  go_ret
  exact ⟨rfl, H9.out.out.trans hxa⟩
end Go.Proofs.Ytkfdhnmlebnfkaa

/- A list of kinlaw13's operations opened: three numbers and a yes or no each. -/
namespace Go.Proofs.Ytkfdhnmlebnfkaa
set_option linter.unusedVariables false
set_option linter.unusedSimpArgs false
open Go.ChangeShapes Go.WideShapes Go.ChangeAt Go.RowKit Go.Joins Go.Deep

instance : Inhabited Mo := ⟨⟨0, 0, 0, false⟩⟩
def i64ok (x : Int) : Prop := -9223372036854775808 ≤ x ∧ x ≤ 9223372036854775807
def MoIn (w : World) (g i : Nat) (o : Mo) : Prop := w.cell? ⟨g, i, none⟩ = some (.int .i64 o.k) ∧ w.cell? ⟨g, i + 1, none⟩ = some (.int .i64 o.c) ∧ w.cell? ⟨g, i + 2, none⟩ = some (.int .i64 o.v) ∧ w.cell? ⟨g, i + 3, none⟩ = some (.bool o.b)
def Mos (w : World) (v : Value) (L : List Mo) : Prop := (∃ a cap, v = .slice a L.length cap ∧ L.length ≤ cap ∧ cap ≤ maxLen ∧ (0 < L.length → ∃ g off, a = some ⟨g, off, none⟩ ∧ ∀ q o, L[q]? = some o → MoIn w g (off + q * 4) o)) ∧ ∀ o ∈ L, i64ok o.k ∧ i64ok o.c ∧ i64ok o.v
theorem MoIn.ext {w w' : World} {g i : Nat} {o : Mo} (h : MoIn w g i o) (k : Ext w w') : MoIn w' g i o := ⟨k.cell h.1, k.cell h.2.1, k.cell h.2.2.1, k.cell h.2.2.2⟩
theorem Mos.ext {w w' : World} {v : Value} {L : List Mo} (h : Mos w v L) (k : Ext w w') : Mos w' v L := by
  obtain ⟨⟨a, cap, e, h1, h2, h3⟩, hb⟩ := h
  refine ⟨⟨a, cap, e, h1, h2, fun h0 => ?_⟩, hb⟩
  obtain ⟨g, off, ha, hq⟩ := h3 h0
  exact ⟨g, off, ha, fun q o ho => (hq q o ho).ext k⟩
theorem Mos.form {w : World} {v : Value} {L : List Mo} (h : Mos w v L) : ∃ a cap, v = .slice a L.length cap := by
  obtain ⟨⟨a, cap, e, -⟩, -⟩ := h
  exact ⟨a, cap, e⟩
theorem Mos.had {w : World} {a : Option Addr} {n cap : Nat} {L : List Mo} (h : Mos w (.slice a n cap) L) (hn : 0 < L.length) : ∃ g off, a = some ⟨g, off, none⟩ ∧ ∀ q o, L[q]? = some o → MoIn w g (off + q * 4) o := by
  obtain ⟨⟨a', cap', e, -, -, h3⟩, -⟩ := h
  simp only [Value.slice.injEq] at e
  obtain ⟨rfl, -, -⟩ := e
  exact h3 hn
theorem Mos.small {w : World} {v : Value} {L : List Mo} (h : Mos w v L) : L.length ≤ maxLen := by
  obtain ⟨⟨a', cap', e, h1, h2, h3⟩, -⟩ := h
  omega
section
variable {H : Type} {enc : TypeId × Value → H} {w : World}
set_option maxRecDepth 100000 in
theorem mo_of_trod {sp : Nat → Bool} {fuel : Nat} {cs : List Value} {y : DataW H × List MemPlace} (hl : cs.length = 4) (hf : DataW.trod enc Try.prog w 0 sp true fuel 32 cs = some y) :
    ∃ o : Mo, cs = [.int .i64 o.k, .int .i64 o.c, .int .i64 o.v, .bool o.b] ∧ i64ok o.k ∧ i64ok o.c ∧ i64ok o.v := by
  obtain ⟨ys, n', hn', hy, hlen, hyl, hg⟩ := DataW.trod_struct Try.underlying32 hf
  match cs, hl, ys, hyl with
  | [v0, v1, v2, v3], _, [y0, y1, y2, y3], _ =>
    obtain ⟨m0, e0, -, w0⟩ := DataW.trod_int Try.underlying3 (show DataW.trod enc Try.prog w 0 sp true n' 3 _ = some y0 from hg 0 _ rfl)
    obtain ⟨m1, e1, -, w1⟩ := DataW.trod_int Try.underlying3 (show DataW.trod enc Try.prog w 0 sp true n' 3 _ = some y1 from hg 1 _ rfl)
    obtain ⟨m2, e2, -, w2⟩ := DataW.trod_int Try.underlying3 (show DataW.trod enc Try.prog w 0 sp true n' 3 _ = some y2 from hg 2 _ rfl)
    obtain ⟨m3, e3, -⟩ := DataW.trod_bool Try.underlying4 (show DataW.trod enc Try.prog w 0 sp true n' 4 _ = some y3 from hg 3 _ rfl)
    obtain rfl := (List.cons.inj e0).1
    obtain rfl := (List.cons.inj e1).1
    obtain rfl := (List.cons.inj e2).1
    obtain rfl := (List.cons.inj e3).1
    exact ⟨⟨m0, m1, m2, m3⟩, rfl, wf_bounds w0, wf_bounds w1, wf_bounds w2⟩
set_option maxRecDepth 100000 in
theorem mos_of_reading {r : Reach} {b0 : Nat} {v : Value} {d : DataW H} {p : List MemPlace} (hv : Value.okWide Try.prog w r b0 23 v) (h : DataW.Trod enc Try.prog w 0 (fun _ => true) true 23 v d p) :
    ∃ L : List Mo, Mos w v L := by
  obtain ⟨a0, l0, c0, rfl⟩ := okWide_slice Try.underlying23 hv
  obtain ⟨fuel, hf⟩ := h
  rcases open_slice Try.underlying23 hf with ⟨hc, _⟩ | ⟨a, len, cap, m, n, D, Pl, hc, _, hl, hm, hmm, _, hx⟩
  · have hv : Value.slice a0 l0 c0 = .slice none 0 0 := by simpa [Value.cells] using hc
    rw [hv]
    exact ⟨[], ⟨none, 0, rfl, Nat.le_refl _, Nat.zero_le _, fun h => absurd h (Nat.lt_irrefl _)⟩, by simp⟩
  · have hv : Value.slice a0 l0 c0 = .slice (some a) len cap := by simpa [Value.cells] using hc
    rw [hv]
    have hC : Try.prog.cellsOf 32 = 4 := by kernel_rfl
    have hm' : m = cap := by simpa using hmm
    have each : ∀ i, i < len → ∃ q : Mo, w.cell? (a.add (i * 4)) = some (.int .i64 q.k) ∧ w.cell? (a.add (i * 4 + 1)) = some (.int .i64 q.c) ∧ w.cell? (a.add (i * 4 + 2)) = some (.int .i64 q.v) ∧ w.cell? (a.add (i * 4 + 3)) = some (.bool q.b) ∧ i64ok q.k ∧ i64ok q.c ∧ i64ok q.v := by
      intro i hi
      obtain ⟨cs', h1, h2⟩ := hx i (by omega)
      rw [hC] at h1
      obtain ⟨_, hlen, hcell⟩ := World.cells?_some h1
      obtain ⟨f, rfl, hr⟩ := mo_of_trod hlen h2
      have e0 := hcell 0 (by omega)
      have e1 := hcell 1 (by omega)
      have e2 := hcell 2 (by omega)
      have e3 := hcell 3 (by omega)
      rw [add_add] at e0 e1 e2 e3
      exact ⟨f, by simpa using e0, by simpa using e1, by simpa using e2, by simpa using e3, hr⟩
    obtain ⟨q, hq⟩ := choose_lt each
    refine ⟨(List.range len).map q, ⟨some a, cap, by simp, by simpa using hl, hm, fun h0 => ?_⟩, fun o ho => ?_⟩
    · have h0 : 0 < len := by simpa using h0
      have ha : ∃ g off, a = ⟨g, off, none⟩ := by
        have := (hq 0 h0).1
        obtain ⟨g, off, spot⟩ := a
        have hspot : spot = none := by simpa [Addr.add] using World.cell?_spot this
        subst hspot
        exact ⟨g, off, rfl⟩
      obtain ⟨g, off, rfl⟩ := ha
      refine ⟨g, off, rfl, fun j f hj => ?_⟩
      rw [List.getElem?_map] at hj
      obtain ⟨j', hj', rfl⟩ := Option.map_eq_some_iff.1 hj
      obtain ⟨hlt, e⟩ := List.getElem?_eq_some_iff.1 hj'
      simp at hlt e
      subst e
      obtain ⟨h1, h2, h3, h4, -⟩ := hq j (by omega)
      rw [Go.WideShapes.add_plain] at h1 h2 h3 h4
      exact ⟨h1, h2, h3, h4⟩
    · obtain ⟨k, hk, rfl⟩ := List.mem_map.1 ho
      exact (hq k (List.mem_range.1 hk)).2.2.2.2
end
end Go.Proofs.Ytkfdhnmlebnfkaa
