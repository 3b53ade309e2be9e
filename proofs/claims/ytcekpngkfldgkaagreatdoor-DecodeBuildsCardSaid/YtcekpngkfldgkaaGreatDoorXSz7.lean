/- syntax.codeKind; (*syntax.Square).codeParts. -/
import Derived.Test.YtcekpngkfldgkaaGreatDoorXTk
import Derived.Test.YtcekpngkfldgkaaGreatDoorXZs
namespace Go.Proofs.YtcekpngkfldgkaaGreatDoor
set_option linter.unusedVariables false
set_option linter.unusedSimpArgs false
open Go.RowKit Go.Extern.Stop Go.Stop Go.Extern
abbrev gD (n : Nat) : Edge := { on := n, ground := Ground.data }
abbrev gP (n : Nat) : Edge := { on := n, ground := Ground.phase }
abbrev gC (n : Nat) : Edge := { on := n, ground := Ground.chain }
abbrev gO (n : Nat) : Edge := { on := n, ground := Ground.gcOnly Departure.lateStores }
abbrev gT (n : Nat) : Edge := { on := n, ground := Ground.textOnly Departure.lateStores }
section
variable {σ σ' τ : Type} {A : World → (Nat → Prop) → σ → Prop} {A' : World → (Nat → Prop) → σ' → Prop} {B : World → (Nat → Prop) → τ → Prop} {w w' : World}
def BxF (p : Nat) (w : World) (F : Nat → Prop) (cs : Array Value) : Prop := BoxIs w p cs 30 ∧ ∀ k, F k ↔ k = p
theorem BxF.obj (p : Nat) : Obj (BxF p) := ⟨fun h k hk => by rw [(h.2 k).1 hk]; exact h.1.lt, fun h k => ⟨(k p ((h.2 p).2 rfl)).trans h.1, h.2⟩⟩
theorem bx_box {p : Nat} {F : Nat → Prop} {s : σ} {cs : Array Value} {P : World → Prop} (h : Sep (Sep A (BxF p)) HoF w F ((s, cs), P)) : BoxIs w p cs 30 := by
 obtain ⟨F1, F2, ⟨G1, G2, g1, g2, g3, g4⟩, h2, h3, h4⟩ := h
 exact g2.1
theorem bx_has {p : Nat} {F : Nat → Prop} {s : σ} {cs : Array Value} {P : World → Prop} (h : Sep (Sep A (BxF p)) HoF w F ((s, cs), P)) : P w := by
 obtain ⟨F1, F2, ⟨G1, G2, g1, g2, g3, g4⟩, h2, h3, h4⟩ := h
 exact h2.get
theorem bx_set (oa : Obj A) {p : Nat} {F : Nat → Prop} {s : σ} {cs : Array Value} {P : World → Prop} (h : Sep (Sep A (BxF p)) HoF w F ((s, cs), P)) (i : Nat) (v : Value) : Sep (Sep A (BxF p)) HoF (w.setCell ⟨p, i, none⟩ v) F ((s, cs.setIfInBounds i v), P) ∧ Step F w F (w.setCell ⟨p, i, none⟩ v) := by
 obtain ⟨F1, F2, ⟨G1, G2, g1, g2, g3, g4⟩, h2, h3, h4⟩ := h
 have hp2 : G2 p := (g2.2 p).2 rfl
 have n1 : ∀ k, G1 k → k ≠ p := fun k hk e => g3 p hp2 (e ▸ hk)
 have n2 : ∀ k, F2 k → k ≠ p := fun k hk e => h3 k hk ((g4 k).2 (.inr (e ▸ hp2)))
 refine ⟨⟨F1, F2, ⟨G1, G2, oa.same g1 (fun k hk => Below.heap_setCell w ⟨p, i, none⟩ v k (fun e => n1 k hk e)), ⟨g2.1.set (i := i) v, g2.2⟩, g3, g4⟩, HoF.obj.same h2 (fun k hk => Below.heap_setCell w ⟨p, i, none⟩ v k (fun e => n2 k hk e)), h3, h4⟩, ?_⟩
 exact Step.of_kp ((Kp.refl p w).set i v) ((h4 p).2 (.inl ((g4 p).2 (.inr hp2))))
theorem bx_f {p : Nat} {f : FuncId} {args : Array Value} {v : Value} {F : Nat → Prop} {s s' : σ} {cs : Array Value} {P : World → Prop} (h : Sep (Sep A (BxF p)) HoF w F ((s, cs), P)) (c : ∀ G, A w G s → Calls Tryz.prog f args w (FPost A G w v s')) : Calls Tryz.prog f args w (FPost (Sep (Sep A (BxF p)) HoF) F w v ((s', cs), P)) :=
 sep_l HoF.obj h (fun _ hG => sep_l (BxF.obj p) hG c)
theorem sep_lqF (ob : Obj B) {f : FuncId} {args : Array Value} {R : Ending → σ' × (World → Prop) → Prop} {s : σ} {t : τ} {F : Nat → Prop} {P : World → Prop} (h : Sep (Sep A B) HoF w F ((s, t), P)) (c : ∀ G, A w G s → (∀ k, G k → F k) → Calls Tryz.prog f args w (QPost (Sep A' HoF) R G w)) :
 Calls Tryz.prog f args w fun e w' => ∃ s' P' G, R e (s', P') ∧ Sep (Sep A' B) HoF w' G ((s', t), fun W => P W ∧ P' W) ∧ Step F w G w' := by
 obtain ⟨F12, F3, ⟨F1, F2, g1, g2, d1, g4⟩, g3, d2, hF⟩ := h
 refine (c F1 g1 (fun k hk => (hF k).2 (.inl ((g4 k).2 (.inl hk))))).mono ?_
 rintro e w' ⟨⟨s', P'⟩, G, hr, ⟨G1, G2, k1, k2, k3, k4⟩, st⟩
 obtain ⟨a1, a2, a3⟩ := st.apart (HoF.obj.lt g3) (fun i hi hf => d2 i hi ((g4 i).2 (.inl hf)))
 obtain ⟨b1, b2, b3⟩ := st.apart (ob.lt g2) d1
 refine ⟨s', P', fun i => (G1 i ∨ F2 i) ∨ (F3 i ∨ G2 i), hr, ⟨fun i => G1 i ∨ F2 i, fun i => F3 i ∨ G2 i, ⟨G1, F2, k1, ob.same g2 b1, fun i hi hg => b2 i hi ((k4 i).2 (.inl hg)), fun _ => Iff.rfl⟩, (HoF.obj.same g3 a1).and k2, ?_, fun _ => Iff.rfl⟩, ⟨st.1.1, st.1.2.1, fun k hk hn => st.1.2.2 k hk (fun hf => hn ((hF k).2 (.inl ((g4 k).2 (.inl hf)))))⟩, ?_⟩
 · rintro i (hi | hi) (hg | hg)
   · exact a2 i hi ((k4 i).2 (.inl hg))
   · exact d2 i hi ((g4 i).2 (.inr hg))
   · exact k3 i hi hg
   · exact b2 i hg ((k4 i).2 (.inr hi))
 · rintro i ((hi | hi) | (hi | hi))
   · exact (st.2 i ((k4 i).2 (.inl hi))).imp (fun h => (hF i).2 (.inl ((g4 i).2 (.inl h)))) id
   · exact .inl ((hF i).2 (.inl ((g4 i).2 (.inr hi))))
   · exact .inl ((hF i).2 (.inr hi))
   · exact (st.2 i ((k4 i).2 (.inr hi))).imp (fun h => (hF i).2 (.inl ((g4 i).2 (.inl h)))) id
theorem ho_keep {F0 F X : Nat → Prop} {w0 w : World} {P : World → Prop} (h : HoF w0 X P) (hd : ∀ k, X k → ¬ F0 k) (st : Step F0 w0 F w) : HoF w X P ∧ ∀ k, X k → ¬ F k := by
 obtain ⟨a1, a2, a3⟩ := st.apart h.1 hd
 exact ⟨HoF.obj.same h a1, a2⟩
theorem HoF.box {w : World} {b : Nat} {cs : Array Value} {T : TypeId} (h : BoxIs w b cs T) : HoF w (fun k => k = b) (fun W => BoxIs W b cs T) := ⟨fun k hk => by rw [hk]; exact h.lt, fun _ a => (a b rfl).trans h⟩
end
def sqA (q : Sq) (L s0 s1 s2 s3 : Value) : Array Value := #[.int .i64 q.k, .int .i64 q.m, .int .i64 q.a, .int .i64 q.b, .int .i64 q.c, .int .i64 q.d, .int .i64 q.x, .int .i64 q.y, L, s0, s1, s2, s3]
def CpR {σ : Type} (k : Int) (r : (Fall × Sq) × Ms σ) (e : Ending) (z : (Ms σ × Array Value) × (World → Prop)) : Prop := z.1.1 = r.2 ∧ match r.1.1 with
 | none => ∃ L s0 s1 s2 s3, e = .returned .nilIface ∧ z.1.2 = sqA r.1.2 L s0 s1 s2 s3 ∧ ∀ W, z.2 W → SqIs W r.1.2 L s0 s1 s2 s3
 | some f => ∃ x c1 c2 c3 c4 c5 c6 c7 c8 c9 c10 c11 c12, e = .returned x ∧ z.1.2 = #[.int .i64 k, c1, c2, c3, c4, c5, c6, c7, c8, c9, c10, c11, c12] ∧ ∀ W, z.2 W → ErrIs W (some f) x
theorem CpR.ok {σ : Type} {k : Int} {r : (Fall × Sq) × Ms σ} {q : Sq} {s : Ms σ} {cs : Array Value} {P : World → Prop} {L s0 s1 s2 s3 : Value} (hr : r = ((none, q), s)) (hc : cs = sqA q L s0 s1 s2 s3) (hP : ∀ W, P W → SqIs W q L s0 s1 s2 s3) : CpR k r (.returned .nilIface) ((s, cs), P) := by
 subst hr
 exact ⟨rfl, L, s0, s1, s2, s3, rfl, hc, hP⟩
theorem CpR.bad {σ : Type} {k : Int} {r : (Fall × Sq) × Ms σ} {f : List (ByteArray × Int) × Int} {q : Sq} {s : Ms σ} {cs : Array Value} {P : World → Prop} {x c1 c2 c3 c4 c5 c6 c7 c8 c9 c10 c11 c12 : Value} (hr : r = ((some f, q), s)) (hc : cs = #[.int .i64 k, c1, c2, c3, c4, c5, c6, c7, c8, c9, c10, c11, c12]) (hP : ∀ W, P W → ErrIs W (some f) x) : CpR k r (.returned x) ((s, cs), P) := by
 subst hr
 exact ⟨rfl, x, c1, c2, c3, c4, c5, c6, c7, c8, c9, c10, c11, c12, rfl, hc, hP⟩
abbrev zeA (k : Int) : Array Value := #[.int .i64 k, .int .i64 0, .int .i64 0, .int .i64 0, .int .i64 0, .int .i64 0, .int .i64 0, .int .i64 0, nilS, nilS, nilS, nilS, nilS]
theorem par_ok {σ : Type} {M : Mc σ} {ok : Nat → σ → Prop} (m : Mk M ok) {N : Nat} {s s1 : Ms σ} {v x : Int} (h : okS ok N s) (e : partM M s v = (x, s1)) : okS ok (N + 64) s1 := by
 have := Pg.ok m (par_dep v) h
 rw [par_run, e] at this
 exact this
theorem mod_ok {σ : Type} {M : Mc σ} {ok : Nat → σ → Prop} (m : Mk M ok) {N : Nat} {s s1 : Ms σ} {v x : Nat} (h : okS ok N s) (e : modeM M s v = (x, s1)) : okS ok (N + 8) s1 := by
 have := Pg.ok m (mod_dep v) h
 rw [mod_run, e] at this
 exact this
theorem cod_ok {σ : Type} {M : Mc σ} {ok : Nat → σ → Prop} (m : Mk M ok) {N n : Nat} {s s1 : Ms σ} {xs : List Int} {r : Fall × List Int} (h : okS ok N s) (hx : xs.length = n) (e : (codP xs).run M s = (r, s1)) : okS ok (N + 4 * (43 * n + 1)) s1 := by
 have := Pg.ok m (cod_dep xs) h
 rw [e, hx] at this
 exact this
theorem st_run {σ : Type} {M : Mc σ} {m : Int} {xs : List Int} {s s1 s2 : Ms σ} {v : Nat} {r : Fall × List Int} (e : modeM M s (cl3 m) = (v, s1)) (d : (codP xs).run M s1 = (r, s2)) : (stP m xs).run M s = (((v : Int), r), s2) := by
 unfold stP
 rw [Pg.run_bind, mod_run, e, Pg.run_bind, d]
 rfl
def foP3 (q : Sq) (m0 m1 m2 : Int) (y0 y1 y2 : List Int) : Pg (Fall × Sq) := (stP q.d q.s3).bind (fun r3 => onP r3.2.1 (fun f => .ret (f, sq0)) (.ret (none, ⟨3, 0, m0, m1, m2, r3.1, 0, 0, [], y0, y1, y2, r3.2.2⟩)))
def foP2 (q : Sq) (m0 m1 : Int) (y0 y1 : List Int) : Pg (Fall × Sq) := (stP q.c q.s2).bind (fun r2 => onP r2.2.1 (fun f => .ret (f, sq0)) (foP3 q m0 m1 r2.1 y0 y1 r2.2.2))
def foP1 (q : Sq) (m0 : Int) (y0 : List Int) : Pg (Fall × Sq) := (stP q.b q.s1).bind (fun r1 => onP r1.2.1 (fun f => .ret (f, sq0)) (foP2 q m0 r1.1 y0 r1.2.2))
theorem fo_runs {σ : Type} {M : Mc σ} {q : Sq} {s q0 t0 q1 t1 q2 t2 q3 t3 : Ms σ} {m0 m1 m2 m3 : Nat} {f0 f1 f2 f3 : Fall} {y0 y1 y2 y3 : List Int}
 (e0 : modeM M s (cl3 q.a) = (m0, q0)) (d0 : (codP q.s0).run M q0 = ((f0, y0), t0)) (e1 : modeM M t0 (cl3 q.b) = (m1, q1)) (d1 : (codP q.s1).run M q1 = ((f1, y1), t1))
 (e2 : modeM M t1 (cl3 q.c) = (m2, q2)) (d2 : (codP q.s2).run M q2 = ((f2, y2), t2)) (e3 : modeM M t2 (cl3 q.d) = (m3, q3)) (d3 : (codP q.s3).run M q3 = ((f3, y3), t3)) :
 (∀ e, f0 = some e → (ptP 3 q).run M s = ((some e, sq0), t0)) ∧ (f0 = none → (∀ e, f1 = some e → (ptP 3 q).run M s = ((some e, sq0), t1)) ∧ (f1 = none → (∀ e, f2 = some e → (ptP 3 q).run M s = ((some e, sq0), t2)) ∧
   (f2 = none → (∀ e, f3 = some e → (ptP 3 q).run M s = ((some e, sq0), t3)) ∧ (f3 = none → (ptP 3 q).run M s = ((none, ⟨3, 0, m0, m1, m2, m3, 0, 0, [], y0, y1, y2, y3⟩), t3))))) := by
 have h0 : (ptP 3 q).run M s = (onP f0 (fun f => .ret (f, sq0)) (foP1 q m0 y0) : Pg (Fall × Sq)).run M t0 := by
  show ((stP q.a q.s0).bind (fun r0 => onP r0.2.1 (fun f => .ret (f, sq0)) (foP1 q r0.1 r0.2.2))).run M s = _
  rw [Pg.run_bind, st_run e0 d0]
 refine ⟨fun e h => by rw [h0, h]; rfl, fun h => ?_⟩
 have h1 : (ptP 3 q).run M s = (onP f1 (fun f => .ret (f, sq0)) (foP2 q m0 m1 y0 y1) : Pg (Fall × Sq)).run M t1 := by
  rw [h0, h]
  show ((stP q.b q.s1).bind _).run M t0 = _
  rw [Pg.run_bind, st_run e1 d1]
 refine ⟨fun e h => by rw [h1, h]; rfl, fun h => ?_⟩
 have h2 : (ptP 3 q).run M s = (onP f2 (fun f => .ret (f, sq0)) (foP3 q m0 m1 m2 y0 y1 y2) : Pg (Fall × Sq)).run M t2 := by
  rw [h1, h]
  show ((stP q.c q.s2).bind _).run M t1 = _
  rw [Pg.run_bind, st_run e2 d2]
 refine ⟨fun e h => by rw [h2, h]; rfl, fun h => ?_⟩
 have h3 : (ptP 3 q).run M s = (onP f3 (fun f => .ret (f, sq0)) (.ret (none, ⟨3, 0, m0, m1, m2, m3, 0, 0, [], y0, y1, y2, y3⟩)) : Pg (Fall × Sq)).run M t3 := by
  rw [h2, h]
  show ((stP q.d q.s3).bind _).run M t2 = _
  rw [Pg.run_bind, st_run e3 d3]
 exact ⟨fun e h => by rw [h3, h]; rfl, fun h => by rw [h3, h]; rfl⟩
set_option maxRecDepth 20000 in
set_option maxHeartbeats 1000000 in
theorem mrckind_any (a N : Nat) (bs : List Nat) (hb : ∀ x ∈ bs, x < 256) (key : Bool) (k : Int) (s : Ms Dc) (F : Nat → Prop) (w : World) (h : (RdF a bs) w F s) (hk : okS okDm N s) (hN : N ≤ 3999000) : Calls Tryz.prog 112 #[.iface 122 (.pointer (some ⟨a, 0, none⟩)), .bool key, .int .i64 k] w (FPost (RdF a bs) F w (.int .i64 ((kyP key k).run (mD bs) s).1) ((kyP key k).run (mD bs) s).2) := by
 cases key
 · have UB := Lib.hid (mrkind_any a N bs hb k s F w h hk hN)
   have HR : Hid ((kyP false k).run (mD bs) s = (((kindM (mD bs) s k).1 : Int), (kindM (mD bs) s k).2)) := kin_run k s
   clear h hk
   go_enter Tryz.func112, Tryz.ntmps112
   go_wp2_with fail
   refine (UB.out).mono ?_; rintro e w1 ⟨rfl, F1, h1, g1⟩
   go_wp2
   go_ret
   exact ⟨by rw [HR.out]; rfl, F1, by rw [HR.out]; exact h1, g1⟩
 · have HM := mr_fla a
   have NF := nr_fla a
   obtain ⟨b, hb'⟩ : ∃ b, decide (k = 3) = b := ⟨_, rfl⟩
   have d0 : (k == 3) = b := by rw [← hb']; rfl
   obtain ⟨⟨V, s1⟩, e⟩ : ∃ r, flaM (mD bs) s b = r := ⟨_, rfl⟩
   have UF := Lib.hid (((fun N up s F w h hk hN => mrflat_any a N bs up s F w h hk hN)) N b s F w h hk (by omega))
   rw [e] at UF
   have HR : Hid ((kyP true k).run (mD bs) s = (if V then 3 else 2, s1)) := by
    show ((fun v : Bool => Pg.ret (if v then (3 : Int) else 2)) (flaM (mD bs) s (decide (k = 3))).1).run (mD bs) (flaM (mD bs) s (decide (k = 3))).2 = _
    rw [hb', e]
    rfl
   clear h hk hb' e
   go_enter Tryz.func112, Tryz.ntmps112
   go_wp2_with fail
   refine (UF.out).mono ?_; rintro e w1 ⟨rfl, F1, h1, g1⟩
   cases V
   · go_wp2
     go_ret
     exact ⟨by rw [HR.out]; rfl, F1, by rw [HR.out]; exact h1, g1⟩
   · go_wp2
     go_ret
     exact ⟨by rw [HR.out]; rfl, F1, by rw [HR.out]; exact h1, g1⟩
set_option maxRecDepth 20000 in
theorem mrparts_0 (a p N : Nat) (bs : List Nat) (hb : ∀ x ∈ bs, x < 256) (gk gm ga gb gc gd gx gy : Int) (L s0 s1 s2 s3 : List Int) (vL v0 v1 v2 v3 : Value) (X : Nat → Prop) (s : Ms Dc) (F : Nat → Prop) (w : World) (h : Sep (RdF a bs) (BxF p) w F (s, zeA 0)) (hx : HoF w X (fun W => SqIs W ⟨gk, gm, ga, gb, gc, gd, gx, gy, L, s0, s1, s2, s3⟩ vL v0 v1 v2 v3)) : Calls Tryz.prog 113 #[.pointer (some ⟨p, 0, none⟩), .iface 122 (.pointer (some ⟨a, 0, none⟩)), sqV gk gm ga gb gc gd gx gy vL v0 v1 v2 v3] w (QPost (Sep (Sep (RdF a bs) (BxF p)) HoF) (CpR 0 ((ptP 0 ⟨gk, gm, ga, gb, gc, gd, gx, gy, L, s0, s1, s2, s3⟩).run (mD bs) s)) F w) := by
 obtain ⟨aL, lL, cL, rfl⟩ := hx.get.1.slf
 obtain ⟨a0, l0, c0, rfl⟩ := hx.get.2.1.slf
 obtain ⟨a1, l1, c1, rfl⟩ := hx.get.2.2.1.slf
 obtain ⟨a2, l2, c2, rfl⟩ := hx.get.2.2.2.1.slf
 obtain ⟨a3, l3, c3, rfl⟩ := hx.get.2.2.2.2.slf
 have E0 := (Ext.refl w).alloc (.cells #[.int .i64 gk, .int .i64 gm, .int .i64 ga, .int .i64 gb, .int .i64 gc, .int .i64 gd, .int .i64 gx, .int .i64 gy, .slice aL lL cL, .slice a0 l0 c0, .slice a1 l1 c1, .slice a2 l2 c2, .slice a3 l3 c3] 30)
 have h1 := Obj.ext ((RdF.obj a bs).sep (BxF.obj p)) h E0
 have HS0 : Hid (Sep (Sep (RdF a bs) (BxF p)) HoF _ F ((s, zeA 0), fun _ => True)) := Sep.pure h1 (fun _ => trivial)
 have pc0 : (w.alloc (.cells #[.int .i64 gk, .int .i64 gm, .int .i64 ga, .int .i64 gb, .int .i64 gc, .int .i64 gd, .int .i64 gx, .int .i64 gy, .slice aL lL cL, .slice a0 l0 c0, .slice a1 l1 c1, .slice a2 l2 c2, .slice a3 l3 c3] 30)).cell? ⟨p, 0, none⟩ = some (.int .i64 0) := (bx_box HS0.out).cell rfl
 have HE := Lib.hid (Step.of_ext (F := F) E0)
 clear h h1 hx E0
 unfold sqV
 go_enter Tryz.func113, Tryz.ntmps113
 go_wp2
 go_ret
 exact ⟨_, F, CpR.ok (P := fun _ => True) (L := nilS) (s0 := nilS) (s1 := nilS) (s2 := nilS) (s3 := nilS) rfl rfl (fun W _ => ⟨Ints.nil W, Ints.nil W, Ints.nil W, Ints.nil W, Ints.nil W⟩), HS0.out, HE.out⟩
set_option maxRecDepth 20000 in
set_option maxHeartbeats 8000000 in
theorem mrparts_1 (a p N : Nat) (bs : List Nat) (hb : ∀ x ∈ bs, x < 256) (gk gm ga gb gc gd gx gy : Int) (L s0 s1 s2 s3 : List Int) (vL v0 v1 v2 v3 : Value) (X : Nat → Prop) (s : Ms Dc) (F : Nat → Prop) (w : World) (h : Sep (RdF a bs) (BxF p) w F (s, zeA 1)) (hk : okS okDm N s) (hN : N ≤ 3850000) (hx : HoF w X (fun W => SqIs W ⟨gk, gm, ga, gb, gc, gd, gx, gy, L, s0, s1, s2, s3⟩ vL v0 v1 v2 v3)) (hd : ∀ k, X k → ¬ F k) : Calls Tryz.prog 113 #[.pointer (some ⟨p, 0, none⟩), .iface 122 (.pointer (some ⟨a, 0, none⟩)), sqV gk gm ga gb gc gd gx gy vL v0 v1 v2 v3] w (QPost (Sep (Sep (RdF a bs) (BxF p)) HoF) (CpR 1 ((ptP 1 ⟨gk, gm, ga, gb, gc, gd, gx, gy, L, s0, s1, s2, s3⟩).run (mD bs) s)) F w) := by
 obtain ⟨aL, lL, cL, rfl⟩ := hx.get.1.slf
 obtain ⟨a0, l0, c0, rfl⟩ := hx.get.2.1.slf
 obtain ⟨a1, l1, c1, rfl⟩ := hx.get.2.2.1.slf
 obtain ⟨a2, l2, c2, rfl⟩ := hx.get.2.2.2.1.slf
 obtain ⟨a3, l3, c3, rfl⟩ := hx.get.2.2.2.2.slf
 have hpl : p < w.heap.size := by obtain ⟨F1, F2, k1, k2, -, -⟩ := h; exact k2.1.lt
 have hne : ¬ w.heap.size = p := by omega
 have hen : ¬ p = w.heap.size := by omega
 have B0 := BoxIs.new w #[.int .i64 gk, .int .i64 gm, .int .i64 ga, .int .i64 gb, .int .i64 gc, .int .i64 gd, .int .i64 gx, .int .i64 gy, .slice aL lL cL, .slice a0 l0 c0, .slice a1 l1 c1, .slice a2 l2 c2, .slice a3 l3 c3] 30
 have E0 := (Ext.refl w).alloc (.cells #[.int .i64 gk, .int .i64 gm, .int .i64 ga, .int .i64 gb, .int .i64 gc, .int .i64 gd, .int .i64 gx, .int .i64 gy, .slice aL lL cL, .slice a0 l0 c0, .slice a1 l1 c1, .slice a2 l2 c2, .slice a3 l3 c3] 30)
 have h1 := Obj.ext ((RdF.obj a bs).sep (BxF.obj p)) h E0
 have hX1 := (hx.ext E0).and (HoF.box B0)
 have hd1 : ∀ k, (X k ∨ k = w.heap.size) → ¬ F k := fun k hk => hk.elim (hd k) (fun e hf => by have := ((RdF.obj a bs).sep (BxF.obj p)).lt h k hf; omega)
 have pc0 : (w.alloc (.cells #[.int .i64 gk, .int .i64 gm, .int .i64 ga, .int .i64 gb, .int .i64 gc, .int .i64 gd, .int .i64 gx, .int .i64 gy, .slice aL lL cL, .slice a0 l0 c0, .slice a1 l1 c1, .slice a2 l2 c2, .slice a3 l3 c3] 30)).cell? ⟨p, 0, none⟩ = some (.int .i64 1) := by
  obtain ⟨F1, F2, k1, k2, -, -⟩ := h1
  exact k2.1.cell rfl
 obtain ⟨u, hu⟩ : ∃ z, w.alloc (.cells #[.int .i64 gk, .int .i64 gm, .int .i64 ga, .int .i64 gb, .int .i64 gc, .int .i64 gd, .int .i64 gx, .int .i64 gy, .slice aL lL cL, .slice a0 l0 c0, .slice a1 l1 c1, .slice a2 l2 c2, .slice a3 l3 c3] 30) = z := ⟨_, rfl⟩
 rw [hu] at B0 E0 h1 hX1
 have HU := Lib.hid hu
 have HS0 : Hid (Sep (Sep (RdF a bs) (BxF p)) HoF u F ((s, zeA 1), fun _ => True)) := Sep.pure h1 (fun _ => trivial)
 have HG0 : Hid (Step F w F u) := Step.of_ext E0
 have HXX := Lib.hid hX1
 have HDD := Lib.hid hd1
 have HE0 := Lib.hid E0
 have HB : Hid (∀ G w', Step F u G w' → BoxIs w' w.heap.size #[.int .i64 gk, .int .i64 gm, .int .i64 ga, .int .i64 gb, .int .i64 gc, .int .i64 gd, .int .i64 gx, .int .i64 gy, .slice aL lL cL, .slice a0 l0 c0, .slice a1 l1 c1, .slice a2 l2 c2, .slice a3 l3 c3] 30) := fun G w' st => (ho_keep hX1 hd1 st).1.get.2
 obtain ⟨⟨g0, g1, g2, g3, g4, g5, g6, g7, g8, g9, g10, g11, g12⟩, -⟩ := sq_cells B0
 have HI := Lib.hid (Step.refl F u)
 clear B0 E0 h h1 hX1 hd1 hu hx hd
 unfold sqV
 obtain ⟨⟨x1, t1⟩, e1⟩ : ∃ r, partM (mD bs) s (cl15 gx) = r := ⟨_, rfl⟩
 obtain ⟨⟨y1, t2⟩, e2⟩ : ∃ r, partM (mD bs) t1 (cl15 gy) = r := ⟨_, rfl⟩
 obtain ⟨⟨⟨f, ys⟩, t3⟩, e3⟩ : ∃ r, (codP L).run (mD bs) t2 = r := ⟨_, rfl⟩
 have hr : (ptP 1 ⟨gk, gm, ga, gb, gc, gd, gx, gy, L, s0, s1, s2, s3⟩).run (mD bs) s = (onP f (fun f => .ret (f, sq0)) (.ret (none, ⟨1, 0, 0, 0, 0, 0, x1, y1, ys, [], [], [], []⟩)) : Pg (Fall × Sq)).run (mD bs) t3 := by
  show (mvP ⟨gk, gm, ga, gb, gc, gd, gx, gy, L, s0, s1, s2, s3⟩).run (mD bs) s = _
  unfold mvP
  rw [Pg.run_bind, par_run, e1, Pg.run_bind, par_run, e2, Pg.run_bind, e3]
 have k1 := par_ok (mkD hb) hk e1
 have k2 := par_ok (mkD hb) k1 e2
 have U1 := Lib.hid (fun G w' (h : (RdF a bs) w' G s) => mrpart_any a N bs hb gx s G w' h hk (by omega))
 have U2 := Lib.hid (fun G w' (h : (RdF a bs) w' G t1) => mrpart_any a (N + 64) bs hb gy t1 G w' h k1 (by omega))
 have U3 := Lib.hid (fun Y G w' (h : (RdF a bs) w' G t2) (hv : HoF w' Y (fun W => Ints W (.slice aL lL cL) L)) (hd : ∀ k, Y k → ¬ G k) => mrcode_any a (N + 64 + 64) bs hb L _ Y t2 G w' h k2 (by omega) hv hd)
 rw [e1] at U1; rw [e2] at U2; rw [e3] at U3
 have HR := Lib.hid hr
 clear hr e1 e2 e3 k1 k2 hk
 go_enter Tryz.func113, Tryz.ntmps113
 go_wp2_with fail
 rw [HU.out]
 clear g0 g1 g2 g3 g4 g5 g6 g7 g8 g9 g10 g11 g12 pc0
 refine (bx_f HS0.out (fun G hG => U1.out G _ hG)).mono ?_; rintro e w1 ⟨rfl, G1, h1, st1⟩
 have HS1 := Lib.hid h1
 have HI1 := Lib.hid (HI.out.trans st1)
 clear h1 st1 HS0 U1
 obtain ⟨⟨g0, g1, g2, g3, g4, g5, g6, g7, g8, g9, g10, g11, g12⟩, -⟩ := sq_cells (HB.out _ _ HI1.out)
 obtain ⟨⟨c0', c1', c2', c3', c4', c5', c6', c7', c8', c9', c10', c11', c12'⟩, f0, f1, f2, f3, f4, f5, f6, f7, f8, f9, f10, f11, f12⟩ := sq_cells (bx_box HS1.out)
 have hs := bx_set (RdF.obj a bs) HS1.out 6 (.int .i64 x1)
 have HS2 : Hid (Sep (Sep (RdF a bs) (BxF p)) HoF (w1.setCell ⟨p, 6, none⟩ (.int .i64 x1)) _ ((_, #[.int .i64 1, .int .i64 0, .int .i64 0, .int .i64 0, .int .i64 0, .int .i64 0, .int .i64 x1, .int .i64 0, .slice none 0 0, .slice none 0 0, .slice none 0 0, .slice none 0 0, .slice none 0 0]), _)) := hs.1
 have HI2 := Lib.hid (HI1.out.trans hs.2)
 clear hs
 go_wp2_with fail
 clear g0 g1 g2 g3 g4 g5 g6 g7 g8 g9 g10 g11 g12 c0' c1' c2' c3' c4' c5' c6' c7' c8' c9' c10' c11' c12' f0 f1 f2 f3 f4 f5 f6 f7 f8 f9 f10 f11 f12
 generalize w1.setCell _ _ = w2 at HS2 HI2 ⊢
 refine (bx_f HS2.out (fun G hG => U2.out G _ hG)).mono ?_; rintro e w3 ⟨rfl, G3, h3, st3⟩
 have HS3 := Lib.hid h3
 have HI3 := Lib.hid (HI2.out.trans st3)
 clear h3 st3 HS1 HS2 HI1 HI2 U2
 obtain ⟨⟨g0, g1, g2, g3, g4, g5, g6, g7, g8, g9, g10, g11, g12⟩, -⟩ := sq_cells (HB.out _ _ HI3.out)
 obtain ⟨⟨c0', c1', c2', c3', c4', c5', c6', c7', c8', c9', c10', c11', c12'⟩, f0, f1, f2, f3, f4, f5, f6, f7, f8, f9, f10, f11, f12⟩ := sq_cells (bx_box HS3.out)
 have hs := bx_set (RdF.obj a bs) HS3.out 7 (.int .i64 y1)
 have HS4 : Hid (Sep (Sep (RdF a bs) (BxF p)) HoF (w3.setCell ⟨p, 7, none⟩ (.int .i64 y1)) _ ((_, #[.int .i64 1, .int .i64 0, .int .i64 0, .int .i64 0, .int .i64 0, .int .i64 0, .int .i64 x1, .int .i64 y1, .slice none 0 0, .slice none 0 0, .slice none 0 0, .slice none 0 0, .slice none 0 0]), _)) := hs.1
 have HI4 := Lib.hid (HI3.out.trans hs.2)
 clear hs
 go_wp2_with fail
 clear g0 g1 g2 g3 g4 g5 g6 g7 g8 g9 g10 g11 g12 c0' c1' c2' c3' c4' c5' c6' c7' c8' c9' c10' c11' c12' f0 f1 f2 f3 f4 f5 f6 f7 f8 f9 f10 f11 f12
 generalize w3.setCell _ _ = w4 at HS4 HI4 ⊢
 obtain ⟨kx, kd⟩ := ho_keep HXX.out HDD.out HI4.out
 refine (sep_lqF (BxF.obj p) HS4.out (fun G hG hs => U3.out _ G _ hG (kx.imp (fun W h => h.1.1)) (fun k hk hg => kd k hk (hs k hg)))).mono ?_; rintro e w5 ⟨t, P5, G5, ⟨u5, x5, rfl, hp⟩, h5, st5⟩
 obtain ⟨rfl, rfl⟩ := Prod.mk.inj hp
 have HS5 := Lib.hid h5
 have HI5 := Lib.hid (HI4.out.trans st5)
 obtain ⟨au, lu, cu, rfl⟩ := (bx_has h5).2.1.slf
 have hx5 := (bx_has h5).2.2
 clear h5 st5 kx kd hp U3 HS4 HI4
 obtain ⟨⟨g0, g1, g2, g3, g4, g5, g6, g7, g8, g9, g10, g11, g12⟩, -⟩ := sq_cells (HB.out _ _ HI5.out)
 obtain ⟨⟨c0', c1', c2', c3', c4', c5', c6', c7', c8', c9', c10', c11', c12'⟩, f0, f1, f2, f3, f4, f5, f6, f7, f8, f9, f10, f11, f12⟩ := sq_cells (bx_box HS5.out)
 have hs := bx_set (RdF.obj a bs) HS5.out 8 (.slice au lu cu)
 have HS6 : Hid (Sep (Sep (RdF a bs) (BxF p)) HoF (w5.setCell ⟨p, 8, none⟩ (.slice au lu cu)) _ ((_, #[.int .i64 1, .int .i64 0, .int .i64 0, .int .i64 0, .int .i64 0, .int .i64 0, .int .i64 x1, .int .i64 y1, .slice au lu cu, .slice none 0 0, .slice none 0 0, .slice none 0 0, .slice none 0 0]), _)) := hs.1
 have HI6 := Lib.hid (HI5.out.trans hs.2)
 clear hs
 have HZ : Hid (Step F w _ _) := HG0.out.trans HI6.out
 cases f with
 | none =>
   obtain rfl : x5 = .nilIface := hx5
   go_wp2
   go_ret
   exact ⟨_, _, CpR.ok HR.out (L := .slice au lu cu) (s0 := nilS) (s1 := nilS) (s2 := nilS) (s3 := nilS) rfl (fun W h => ⟨h.2.1, Ints.nil W, Ints.nil W, Ints.nil W, Ints.nil W⟩), HS6.out, HZ.out⟩
 | some f =>
   obtain ⟨xt, xv, rfl⟩ := ErrIs.ne hx5
   clear hx5
   go_wp2
   go_ret
   exact ⟨_, _, CpR.bad HR.out rfl (fun W h => h.2.2), HS6.out, HZ.out⟩
set_option maxRecDepth 20000 in
set_option maxHeartbeats 8000000 in
theorem mrparts_2 (a p N : Nat) (bs : List Nat) (hb : ∀ x ∈ bs, x < 256) (gk gm ga gb gc gd gx gy : Int) (L s0 s1 s2 s3 : List Int) (vL v0 v1 v2 v3 : Value) (X : Nat → Prop) (s : Ms Dc) (F : Nat → Prop) (w : World) (h : Sep (RdF a bs) (BxF p) w F (s, zeA 2)) (hk : okS okDm N s) (hN : N ≤ 3850000) (hx : HoF w X (fun W => SqIs W ⟨gk, gm, ga, gb, gc, gd, gx, gy, L, s0, s1, s2, s3⟩ vL v0 v1 v2 v3)) (hd : ∀ k, X k → ¬ F k) : Calls Tryz.prog 113 #[.pointer (some ⟨p, 0, none⟩), .iface 122 (.pointer (some ⟨a, 0, none⟩)), sqV gk gm ga gb gc gd gx gy vL v0 v1 v2 v3] w (QPost (Sep (Sep (RdF a bs) (BxF p)) HoF) (CpR 2 ((ptP 2 ⟨gk, gm, ga, gb, gc, gd, gx, gy, L, s0, s1, s2, s3⟩).run (mD bs) s)) F w) := by
 obtain ⟨aL, lL, cL, rfl⟩ := hx.get.1.slf
 obtain ⟨a0, l0, c0, rfl⟩ := hx.get.2.1.slf
 obtain ⟨a1, l1, c1, rfl⟩ := hx.get.2.2.1.slf
 obtain ⟨a2, l2, c2, rfl⟩ := hx.get.2.2.2.1.slf
 obtain ⟨a3, l3, c3, rfl⟩ := hx.get.2.2.2.2.slf
 have hpl : p < w.heap.size := by obtain ⟨F1, F2, k1, k2, -, -⟩ := h; exact k2.1.lt
 have hne : ¬ w.heap.size = p := by omega
 have hen : ¬ p = w.heap.size := by omega
 have B0 := BoxIs.new w #[.int .i64 gk, .int .i64 gm, .int .i64 ga, .int .i64 gb, .int .i64 gc, .int .i64 gd, .int .i64 gx, .int .i64 gy, .slice aL lL cL, .slice a0 l0 c0, .slice a1 l1 c1, .slice a2 l2 c2, .slice a3 l3 c3] 30
 have E0 := (Ext.refl w).alloc (.cells #[.int .i64 gk, .int .i64 gm, .int .i64 ga, .int .i64 gb, .int .i64 gc, .int .i64 gd, .int .i64 gx, .int .i64 gy, .slice aL lL cL, .slice a0 l0 c0, .slice a1 l1 c1, .slice a2 l2 c2, .slice a3 l3 c3] 30)
 have h1 := Obj.ext ((RdF.obj a bs).sep (BxF.obj p)) h E0
 have hX1 := (hx.ext E0).and (HoF.box B0)
 have hd1 : ∀ k, (X k ∨ k = w.heap.size) → ¬ F k := fun k hk => hk.elim (hd k) (fun e hf => by have := ((RdF.obj a bs).sep (BxF.obj p)).lt h k hf; omega)
 have pc0 : (w.alloc (.cells #[.int .i64 gk, .int .i64 gm, .int .i64 ga, .int .i64 gb, .int .i64 gc, .int .i64 gd, .int .i64 gx, .int .i64 gy, .slice aL lL cL, .slice a0 l0 c0, .slice a1 l1 c1, .slice a2 l2 c2, .slice a3 l3 c3] 30)).cell? ⟨p, 0, none⟩ = some (.int .i64 2) := by
  obtain ⟨F1, F2, k1, k2, -, -⟩ := h1
  exact k2.1.cell rfl
 obtain ⟨u, hu⟩ : ∃ z, w.alloc (.cells #[.int .i64 gk, .int .i64 gm, .int .i64 ga, .int .i64 gb, .int .i64 gc, .int .i64 gd, .int .i64 gx, .int .i64 gy, .slice aL lL cL, .slice a0 l0 c0, .slice a1 l1 c1, .slice a2 l2 c2, .slice a3 l3 c3] 30) = z := ⟨_, rfl⟩
 rw [hu] at B0 E0 h1 hX1
 have HU := Lib.hid hu
 have HS0 : Hid (Sep (Sep (RdF a bs) (BxF p)) HoF u F ((s, zeA 2), fun _ => True)) := Sep.pure h1 (fun _ => trivial)
 have HG0 : Hid (Step F w F u) := Step.of_ext E0
 have HXX := Lib.hid hX1
 have HDD := Lib.hid hd1
 have HE0 := Lib.hid E0
 have HB : Hid (∀ G w', Step F u G w' → BoxIs w' w.heap.size #[.int .i64 gk, .int .i64 gm, .int .i64 ga, .int .i64 gb, .int .i64 gc, .int .i64 gd, .int .i64 gx, .int .i64 gy, .slice aL lL cL, .slice a0 l0 c0, .slice a1 l1 c1, .slice a2 l2 c2, .slice a3 l3 c3] 30) := fun G w' st => (ho_keep hX1 hd1 st).1.get.2
 obtain ⟨⟨g0, g1, g2, g3, g4, g5, g6, g7, g8, g9, g10, g11, g12⟩, -⟩ := sq_cells B0
 have HI := Lib.hid (Step.refl F u)
 clear B0 E0 h h1 hX1 hd1 hu hx hd
 unfold sqV
 obtain ⟨⟨x1, t2⟩, e1⟩ : ∃ r, modeM (mD bs) s (cl3 gm) = r := ⟨_, rfl⟩
 obtain ⟨⟨⟨f, ys⟩, t3⟩, e3⟩ : ∃ r, (codP L).run (mD bs) t2 = r := ⟨_, rfl⟩
 have hr : (ptP 2 ⟨gk, gm, ga, gb, gc, gd, gx, gy, L, s0, s1, s2, s3⟩).run (mD bs) s = (onP f (fun f => .ret (f, sq0)) (.ret (none, ⟨2, (x1 : Int), 0, 0, 0, 0, 0, 0, ys, [], [], [], []⟩)) : Pg (Fall × Sq)).run (mD bs) t3 := by
  show (onP1 ⟨gk, gm, ga, gb, gc, gd, gx, gy, L, s0, s1, s2, s3⟩).run (mD bs) s = _
  unfold onP1
  rw [Pg.run_bind, mod_run, e1, Pg.run_bind, e3]
 have k2 := mod_ok (mkD hb) hk e1
 have U1 := Lib.hid (fun G w' (h : (RdF a bs) w' G s) => mrmode_any a N bs hb gm s G w' h hk (by omega))
 have U3 := Lib.hid (fun Y G w' (h : (RdF a bs) w' G t2) (hv : HoF w' Y (fun W => Ints W (.slice aL lL cL) L)) (hd : ∀ k, Y k → ¬ G k) => mrcode_any a (N + 8) bs hb L _ Y t2 G w' h k2 (by omega) hv hd)
 rw [e1] at U1; rw [e3] at U3
 have HR := Lib.hid hr
 clear hr e1 e3 k2 hk
 go_enter Tryz.func113, Tryz.ntmps113
 go_wp2_with fail
 rw [HU.out]
 clear g0 g1 g2 g3 g4 g5 g6 g7 g8 g9 g10 g11 g12 pc0
 refine (bx_f HS0.out (fun G hG => U1.out G _ hG)).mono ?_; rintro e w1 ⟨rfl, G1, h1, st1⟩
 have HS1 := Lib.hid h1
 have HI1 := Lib.hid (HI.out.trans st1)
 clear h1 st1 HS0 U1
 obtain ⟨⟨g0, g1, g2, g3, g4, g5, g6, g7, g8, g9, g10, g11, g12⟩, -⟩ := sq_cells (HB.out _ _ HI1.out)
 obtain ⟨⟨c0', c1', c2', c3', c4', c5', c6', c7', c8', c9', c10', c11', c12'⟩, f0, f1, f2, f3, f4, f5, f6, f7, f8, f9, f10, f11, f12⟩ := sq_cells (bx_box HS1.out)
 have hs := bx_set (RdF.obj a bs) HS1.out 1 (.int .i64 (x1 : Int))
 have HS4 : Hid (Sep (Sep (RdF a bs) (BxF p)) HoF (w1.setCell ⟨p, 1, none⟩ (.int .i64 (x1 : Int))) _ ((_, #[.int .i64 2, .int .i64 (x1 : Int), .int .i64 0, .int .i64 0, .int .i64 0, .int .i64 0, .int .i64 0, .int .i64 0, .slice none 0 0, .slice none 0 0, .slice none 0 0, .slice none 0 0, .slice none 0 0]), _)) := hs.1
 have HI4 := Lib.hid (HI1.out.trans hs.2)
 clear hs
 go_wp2_with fail
 clear g0 g1 g2 g3 g4 g5 g6 g7 g8 g9 g10 g11 g12 c0' c1' c2' c3' c4' c5' c6' c7' c8' c9' c10' c11' c12' f0 f1 f2 f3 f4 f5 f6 f7 f8 f9 f10 f11 f12
 generalize w1.setCell _ _ = w4 at HS4 HI4 ⊢
 obtain ⟨kx, kd⟩ := ho_keep HXX.out HDD.out HI4.out
 refine (sep_lqF (BxF.obj p) HS4.out (fun G hG hs => U3.out _ G _ hG (kx.imp (fun W h => h.1.1)) (fun k hk hg => kd k hk (hs k hg)))).mono ?_; rintro e w5 ⟨t, P5, G5, ⟨u5, x5, rfl, hp⟩, h5, st5⟩
 obtain ⟨rfl, rfl⟩ := Prod.mk.inj hp
 have HS5 := Lib.hid h5
 have HI5 := Lib.hid (HI4.out.trans st5)
 obtain ⟨au, lu, cu, rfl⟩ := (bx_has h5).2.1.slf
 have hx5 := (bx_has h5).2.2
 clear h5 st5 kx kd hp U3 HS4 HI4
 obtain ⟨⟨g0, g1, g2, g3, g4, g5, g6, g7, g8, g9, g10, g11, g12⟩, -⟩ := sq_cells (HB.out _ _ HI5.out)
 obtain ⟨⟨c0', c1', c2', c3', c4', c5', c6', c7', c8', c9', c10', c11', c12'⟩, f0, f1, f2, f3, f4, f5, f6, f7, f8, f9, f10, f11, f12⟩ := sq_cells (bx_box HS5.out)
 have hs := bx_set (RdF.obj a bs) HS5.out 8 (.slice au lu cu)
 have HS6 : Hid (Sep (Sep (RdF a bs) (BxF p)) HoF (w5.setCell ⟨p, 8, none⟩ (.slice au lu cu)) _ ((_, #[.int .i64 2, .int .i64 (x1 : Int), .int .i64 0, .int .i64 0, .int .i64 0, .int .i64 0, .int .i64 0, .int .i64 0, .slice au lu cu, .slice none 0 0, .slice none 0 0, .slice none 0 0, .slice none 0 0]), _)) := hs.1
 have HI6 := Lib.hid (HI5.out.trans hs.2)
 clear hs
 have HZ : Hid (Step F w _ _) := HG0.out.trans HI6.out
 cases f with
 | none =>
   obtain rfl : x5 = .nilIface := hx5
   go_wp2
   go_ret
   exact ⟨_, _, CpR.ok HR.out (L := .slice au lu cu) (s0 := nilS) (s1 := nilS) (s2 := nilS) (s3 := nilS) rfl (fun W h => ⟨h.2.1, Ints.nil W, Ints.nil W, Ints.nil W, Ints.nil W⟩), HS6.out, HZ.out⟩
 | some f =>
   obtain ⟨xt, xv, rfl⟩ := ErrIs.ne hx5
   clear hx5
   go_wp2
   go_ret
   exact ⟨_, _, CpR.bad HR.out rfl (fun W h => h.2.2), HS6.out, HZ.out⟩
set_option maxRecDepth 20000 in
set_option maxHeartbeats 8000000 in
theorem mrparts_3 (a p N : Nat) (bs : List Nat) (hb : ∀ x ∈ bs, x < 256) (gk gm ga gb gc gd gx gy : Int) (L s0 s1 s2 s3 : List Int) (vL v0 v1 v2 v3 : Value) (X : Nat → Prop) (s : Ms Dc) (F : Nat → Prop) (w : World) (h : Sep (RdF a bs) (BxF p) w F (s, zeA 3)) (hk : okS okDm N s) (hN : N ≤ 3850000) (hx : HoF w X (fun W => SqIs W ⟨gk, gm, ga, gb, gc, gd, gx, gy, L, s0, s1, s2, s3⟩ vL v0 v1 v2 v3)) (hd : ∀ k, X k → ¬ F k) (hl : s0.length ≤ 64 ∧ s1.length ≤ 64 ∧ s2.length ≤ 64 ∧ s3.length ≤ 64) : Calls Tryz.prog 113 #[.pointer (some ⟨p, 0, none⟩), .iface 122 (.pointer (some ⟨a, 0, none⟩)), sqV gk gm ga gb gc gd gx gy vL v0 v1 v2 v3] w (QPost (Sep (Sep (RdF a bs) (BxF p)) HoF) (CpR 3 ((ptP 3 ⟨gk, gm, ga, gb, gc, gd, gx, gy, L, s0, s1, s2, s3⟩).run (mD bs) s)) F w) := by
 obtain ⟨aL, lL, cL, rfl⟩ := hx.get.1.slf
 obtain ⟨a0, l0, c0, rfl⟩ := hx.get.2.1.slf
 obtain ⟨a1, l1, c1, rfl⟩ := hx.get.2.2.1.slf
 obtain ⟨a2, l2, c2, rfl⟩ := hx.get.2.2.2.1.slf
 obtain ⟨a3, l3, c3, rfl⟩ := hx.get.2.2.2.2.slf
 have hpl : p < w.heap.size := by obtain ⟨F1, F2, k1, k2, -, -⟩ := h; exact k2.1.lt
 have hne : ¬ w.heap.size = p := by omega
 have hen : ¬ p = w.heap.size := by omega
 have B0 := BoxIs.new w #[.int .i64 gk, .int .i64 gm, .int .i64 ga, .int .i64 gb, .int .i64 gc, .int .i64 gd, .int .i64 gx, .int .i64 gy, .slice aL lL cL, .slice a0 l0 c0, .slice a1 l1 c1, .slice a2 l2 c2, .slice a3 l3 c3] 30
 have E0 := (Ext.refl w).alloc (.cells #[.int .i64 gk, .int .i64 gm, .int .i64 ga, .int .i64 gb, .int .i64 gc, .int .i64 gd, .int .i64 gx, .int .i64 gy, .slice aL lL cL, .slice a0 l0 c0, .slice a1 l1 c1, .slice a2 l2 c2, .slice a3 l3 c3] 30)
 have h1 := Obj.ext ((RdF.obj a bs).sep (BxF.obj p)) h E0
 have hX1 := (hx.ext E0).and (HoF.box B0)
 have hd1 : ∀ k, (X k ∨ k = w.heap.size) → ¬ F k := fun k hk => hk.elim (hd k) (fun e hf => by have := ((RdF.obj a bs).sep (BxF.obj p)).lt h k hf; omega)
 have pc0 : (w.alloc (.cells #[.int .i64 gk, .int .i64 gm, .int .i64 ga, .int .i64 gb, .int .i64 gc, .int .i64 gd, .int .i64 gx, .int .i64 gy, .slice aL lL cL, .slice a0 l0 c0, .slice a1 l1 c1, .slice a2 l2 c2, .slice a3 l3 c3] 30)).cell? ⟨p, 0, none⟩ = some (.int .i64 3) := by
  obtain ⟨F1, F2, k1, k2, -, -⟩ := h1
  exact k2.1.cell rfl
 obtain ⟨u, hu⟩ : ∃ z, w.alloc (.cells #[.int .i64 gk, .int .i64 gm, .int .i64 ga, .int .i64 gb, .int .i64 gc, .int .i64 gd, .int .i64 gx, .int .i64 gy, .slice aL lL cL, .slice a0 l0 c0, .slice a1 l1 c1, .slice a2 l2 c2, .slice a3 l3 c3] 30) = z := ⟨_, rfl⟩
 rw [hu] at B0 E0 h1 hX1
 have HU := Lib.hid hu
 have HS0 : Hid (Sep (Sep (RdF a bs) (BxF p)) HoF u F ((s, zeA 3), fun _ => True)) := Sep.pure h1 (fun _ => trivial)
 have HG0 : Hid (Step F w F u) := Step.of_ext E0
 have HXX := Lib.hid hX1
 have HDD := Lib.hid hd1
 have HE0 := Lib.hid E0
 have HB : Hid (∀ G w', Step F u G w' → BoxIs w' w.heap.size #[.int .i64 gk, .int .i64 gm, .int .i64 ga, .int .i64 gb, .int .i64 gc, .int .i64 gd, .int .i64 gx, .int .i64 gy, .slice aL lL cL, .slice a0 l0 c0, .slice a1 l1 c1, .slice a2 l2 c2, .slice a3 l3 c3] 30) := fun G w' st => (ho_keep hX1 hd1 st).1.get.2
 obtain ⟨⟨g0, g1, g2, g3, g4, g5, g6, g7, g8, g9, g10, g11, g12⟩, -⟩ := sq_cells B0
 have HI := Lib.hid (Step.refl F u)
 clear B0 E0 h h1 hX1 hd1 hu hx hd
 unfold sqV
 obtain ⟨hl0, hl1, hl2, hl3⟩ := hl
 obtain ⟨⟨m0, q0⟩, e0⟩ : ∃ r, modeM (mD bs) s (cl3 ga) = r := ⟨_, rfl⟩
 obtain ⟨⟨⟨f0, y0⟩, t0⟩, d0⟩ : ∃ r, (codP s0).run (mD bs) q0 = r := ⟨_, rfl⟩
 have ka0 := mod_ok (mkD hb) hk e0
 have kb0 := cod_ok (mkD hb) ka0 (Eq.refl s0.length) d0
 have UA0 := Lib.hid (fun G w' (h : (RdF a bs) w' G s) => mrmode_any a _ bs hb ga s G w' h hk (by omega))
 have UB0 := Lib.hid (fun Y G w' (h : (RdF a bs) w' G q0) (hv : HoF w' Y (fun W => Ints W (.slice a0 l0 c0) s0)) (hd : ∀ k, Y k → ¬ G k) => mrcode_any a _ bs hb s0 _ Y q0 G w' h ka0 (by omega) hv hd)
 rw [e0] at UA0; rw [d0] at UB0
 obtain ⟨⟨m1, q1⟩, e1⟩ : ∃ r, modeM (mD bs) t0 (cl3 gb) = r := ⟨_, rfl⟩
 obtain ⟨⟨⟨f1, y1⟩, t1⟩, d1⟩ : ∃ r, (codP s1).run (mD bs) q1 = r := ⟨_, rfl⟩
 have ka1 := mod_ok (mkD hb) kb0 e1
 have kb1 := cod_ok (mkD hb) ka1 (Eq.refl s1.length) d1
 have UA1 := Lib.hid (fun G w' (h : (RdF a bs) w' G t0) => mrmode_any a _ bs hb gb t0 G w' h kb0 (by omega))
 have UB1 := Lib.hid (fun Y G w' (h : (RdF a bs) w' G q1) (hv : HoF w' Y (fun W => Ints W (.slice a1 l1 c1) s1)) (hd : ∀ k, Y k → ¬ G k) => mrcode_any a _ bs hb s1 _ Y q1 G w' h ka1 (by omega) hv hd)
 rw [e1] at UA1; rw [d1] at UB1
 obtain ⟨⟨m2, q2⟩, e2⟩ : ∃ r, modeM (mD bs) t1 (cl3 gc) = r := ⟨_, rfl⟩
 obtain ⟨⟨⟨f2, y2⟩, t2⟩, d2⟩ : ∃ r, (codP s2).run (mD bs) q2 = r := ⟨_, rfl⟩
 have ka2 := mod_ok (mkD hb) kb1 e2
 have kb2 := cod_ok (mkD hb) ka2 (Eq.refl s2.length) d2
 have UA2 := Lib.hid (fun G w' (h : (RdF a bs) w' G t1) => mrmode_any a _ bs hb gc t1 G w' h kb1 (by omega))
 have UB2 := Lib.hid (fun Y G w' (h : (RdF a bs) w' G q2) (hv : HoF w' Y (fun W => Ints W (.slice a2 l2 c2) s2)) (hd : ∀ k, Y k → ¬ G k) => mrcode_any a _ bs hb s2 _ Y q2 G w' h ka2 (by omega) hv hd)
 rw [e2] at UA2; rw [d2] at UB2
 obtain ⟨⟨m3, q3⟩, e3⟩ : ∃ r, modeM (mD bs) t2 (cl3 gd) = r := ⟨_, rfl⟩
 obtain ⟨⟨⟨f3, y3⟩, t3⟩, d3⟩ : ∃ r, (codP s3).run (mD bs) q3 = r := ⟨_, rfl⟩
 have ka3 := mod_ok (mkD hb) kb2 e3
 have kb3 := cod_ok (mkD hb) ka3 (Eq.refl s3.length) d3
 have UA3 := Lib.hid (fun G w' (h : (RdF a bs) w' G t2) => mrmode_any a _ bs hb gd t2 G w' h kb2 (by omega))
 have UB3 := Lib.hid (fun Y G w' (h : (RdF a bs) w' G q3) (hv : HoF w' Y (fun W => Ints W (.slice a3 l3 c3) s3)) (hd : ∀ k, Y k → ¬ G k) => mrcode_any a _ bs hb s3 _ Y q3 G w' h ka3 (by omega) hv hd)
 rw [e3] at UA3; rw [d3] at UB3
 have HR := Lib.hid (fo_runs (q := ⟨gk, gm, ga, gb, gc, gd, gx, gy, L, s0, s1, s2, s3⟩) e0 d0 e1 d1 e2 d2 e3 d3)
 clear e0 d0 e1 d1 e2 d2 e3 d3 ka0 kb0 ka1 kb1 ka2 kb2 ka3 kb3 hk
 go_enter Tryz.func113, Tryz.ntmps113
 go_wp2_with fail
 rw [HU.out]
 clear g0 g1 g2 g3 g4 g5 g6 g7 g8 g9 g10 g11 g12 pc0
 refine wp_loop_rounds 5 ?_
 have HIz' := Lib.hid (HI.out.ext ((Ext.refl u).drew))
 have HSd := Lib.hid (Obj.ext (((RdF.obj a bs).sep (BxF.obj p)).sep HoF.obj) HS0.out ((Ext.refl u).drew))
 rw [rounds_succ]
 go_wp2_with fail
 refine wp_region_held_drew (S := fun w' => w'.cell? ⟨w.heap.size, 2, none⟩ = some (.int .i64 ga)) (by kernel_rfl) ((HB.out _ _ HIz'.out).cell rfl) (fun hHeld => ?_)
 refine tkH 0 (oi := { dst := some 62, op := Op.move (Operand.tmp 0), type := 226, pos := "syntax.go:188", after := #[], guard := none }) (v := ?_) rfl ?_ ?_
 case refine_2 => (intro w hSw; (try dsimp only at hSw); go_simp; (try with_reducible rfl))
 try simp only [pA, pB, pC, pD]
 refine tkH 1 (oi := { dst := some 63, op := Op.move (Operand.tmp 8), type := 3, pos := "syntax.go:188", after := #[], guard := none }) (v := ?_) rfl ?_ ?_
 case refine_2 => (intro w hSw; (try dsimp only at hSw); go_simp; (try with_reducible rfl))
 try simp only [pA, pB, pC, pD]
 refine tkH 2 (oi := { dst := some 64, op := Op.move (Operand.tmp 1), type := 174, pos := "syntax.go:188", after := #[], guard := none }) (v := ?_) rfl ?_ ?_
 case refine_2 => (intro w hSw; (try dsimp only at hSw); go_simp; (try with_reducible rfl))
 try simp only [pA, pB, pC, pD]
 refine tkH 3 (oi := { dst := some 65, op := Op.move (Operand.tmp 8), type := 3, pos := "syntax.go:188", after := #[], guard := none }) (v := ?_) rfl ?_ ?_
 case refine_2 => (intro w hSw; (try dsimp only at hSw); go_simp; (try with_reducible rfl))
 try simp only [pA, pB, pC, pD]
 refine tkH 4 (oi := { dst := some 66, op := Op.fieldAddr 30 (Operand.tmp 5) 2, type := 0, pos := "syntax.go:188", after := #[], guard := none }) (v := ?_) rfl ?_ ?_
 case refine_2 => (intro w hSw; (try dsimp only at hSw); go_simp; (try with_reducible rfl))
 try simp only [pA, pB, pC, pD]
 refine tkH 5 (oi := { dst := some 67, op := Op.indexAddr 25 (Operand.tmp 66) (Operand.tmp 65), type := 0, pos := "syntax.go:188", after := #[gD 4, gD 3], guard := none }) (v := ?_) rfl ?_ ?_
 case refine_2 => (intro w hSw; (try dsimp only at hSw); go_simp; (try with_reducible rfl))
 try simp only [pA, pB, pC, pD]
 refine tkH 6 (oi := { dst := some 68, op := Op.load 3 (Operand.tmp 67), type := 3, pos := "syntax.go:188", after := #[gD 5], guard := none }) (v := ?_) rfl ?_ ?_
 case refine_2 => (intro w hSw; (try dsimp only at hSw); go_simp; (try with_reducible rfl))
 try simp only [pA, pB, pC, pD]
 refine tkH 8 (oi := { dst := some 70, op := Op.nilCheck (Operand.tmp 62), type := 0, pos := "syntax.go:188", after := #[gD 0], guard := none }) (v := ?_) rfl ?_ ?_
 case refine_2 => (intro w hSw; (try dsimp only at hSw); go_simp; (try with_reducible rfl))
 try simp only [pA, pB, pC, pD]
 refine tkH 9 (oi := { dst := some 71, op := Op.fieldAddr 30 (Operand.tmp 70) 2, type := 0, pos := "syntax.go:188", after := #[gD 8], guard := none }) (v := ?_) rfl ?_ ?_
 case refine_2 => (intro w hSw; (try dsimp only at hSw); go_simp; (try with_reducible rfl))
 try simp only [pA, pB, pC, pD]
 refine wpAnyH_ready (rs := [7]) (by kernel_rfl) (by simp) ?_
 refine AllReadyH.cons (o := { dst := some 69, op := Op.call { callee := Callee.value (Operand.func 152), args := #[Operand.tmp 64, Operand.tmp 68], argTypes := #[174, 3] }, type := 3, pos := "syntax.go:188", after := #[gD 2, gD 6], guard := none }) rfl (fun K hK => ?_) AllReadyH.nil
 go_simp
 go_at_call 152
 refine (bx_f HSd.out (fun G hG => UA0.out G _ hG)).mono ?_; rintro e w1 ⟨rfl, G1, h1, st1⟩
 have HS01 := Lib.hid h1
 have HI01 := Lib.hid (HIz'.out.trans st1)
 clear h1 st1 HSd HS0 HIz' UA0
 refine hK.out _ _ ((HB.out _ _ HI01.out).cell rfl) (fun hHeld => ?_)
 clear hK K
 try simp only [pA, pB, pC, pD]
 refine tkH 10 (oi := { dst := some 72, op := Op.indexAddr 25 (Operand.tmp 71) (Operand.tmp 63), type := 0, pos := "syntax.go:188", after := #[gD 9, gD 1, gP 0, gP 1, gP 2, gP 3, gP 4, gP 5, gP 6, gP 7], guard := none }) (v := ?_) rfl ?_ ?_
 case refine_2 => (intro w hSw; (try dsimp only at hSw); go_simp; (try with_reducible rfl))
 try simp only [pA, pB, pC, pD]
 obtain ⟨⟨g0, g1, g2, g3, g4, g5, g6, g7, g8, g9, g10, g11, g12⟩, -⟩ := sq_cells (HB.out _ _ HI01.out)
 obtain ⟨⟨c0', c1', c2', c3', c4', c5', c6', c7', c8', c9', c10', c11', c12'⟩, f0, f1, f2, f3, f4, f5, f6, f7, f8, f9, f10, f11, f12⟩ := sq_cells (bx_box HS01.out)
 have hs := bx_set (RdF.obj a bs) HS01.out 2 (.int .i64 (m0 : Int))
 have HS02 : Hid (Sep (Sep (RdF a bs) (BxF p)) HoF (w1.setCell ⟨p, 2, none⟩ (.int .i64 (m0 : Int))) _ ((_, #[.int .i64 3, .int .i64 0, .int .i64 (m0 : Int), .int .i64 0, .int .i64 0, .int .i64 0, .int .i64 0, .int .i64 0, .slice none 0 0, .slice none 0 0, .slice none 0 0, .slice none 0 0, .slice none 0 0]), _)) := hs.1
 have HI02 := Lib.hid (HI01.out.trans hs.2)
 clear hs
 refine wpAnyH_ready (rs := [11]) (by kernel_rfl) (by simp) ?_
 refine AllReadyH.cons (o := { dst := none, op := Op.store 3 (Operand.tmp 72) (Operand.tmp 69), type := 0, pos := "syntax.go:188", after := #[gD 10, gD 7, gC 7, gP 0, gP 1, gP 2, gP 3, gP 4, gP 5, gP 6, gP 7], guard := none }) rfl (fun K hK => ?_) AllReadyH.nil
 go_simp
 refine hK.out _ _ ((HB.out _ _ HI02.out).cell rfl) (fun hHeld => ?_)
 clear hK K
 try simp only [pA, pB, pC, pD]
 refine wpAnyH_done (by kernel_rfl) ?_ _
 clear g0 g1 g2 g3 g4 g5 g6 g7 g8 g9 g10 g11 g12 c0' c1' c2' c3' c4' c5' c6' c7' c8' c9' c10' c11' c12' f0 f1 f2 f3 f4 f5 f6 f7 f8 f9 f10 f11 f12
 generalize w1.setCell _ _ = w2 at HS02 HI02 ⊢
 have HI03 := Lib.hid (HI02.out.ext ((Ext.refl w2).drew))
 have HSd := Lib.hid (Obj.ext (((RdF.obj a bs).sep (BxF.obj p)).sep HoF.obj) HS02.out ((Ext.refl w2).drew))
 go_wp2_with fail
 refine wp_region_held_drew (S := fun w' => w'.cell? ⟨w.heap.size, 9, none⟩ = some (.slice a0 l0 c0)) (by kernel_rfl) ((HB.out _ _ HI03.out).cell rfl) (fun hHeld => ?_)
 refine tkH 0 (oi := { dst := some 74, op := Op.move (Operand.tmp 0), type := 226, pos := "syntax.go:189", after := #[], guard := none }) (v := ?_) rfl ?_ ?_
 case refine_2 => (intro w hSw; (try dsimp only at hSw); go_simp; (try with_reducible rfl))
 try simp only [pA, pB, pC, pD]
 refine tkH 1 (oi := { dst := some 75, op := Op.move (Operand.tmp 8), type := 3, pos := "syntax.go:189", after := #[], guard := none }) (v := ?_) rfl ?_ ?_
 case refine_2 => (intro w hSw; (try dsimp only at hSw); go_simp; (try with_reducible rfl))
 try simp only [pA, pB, pC, pD]
 refine tkH 2 (oi := { dst := some 76, op := Op.move (Operand.tmp 1), type := 174, pos := "syntax.go:189", after := #[], guard := none }) (v := ?_) rfl ?_ ?_
 case refine_2 => (intro w hSw; (try dsimp only at hSw); go_simp; (try with_reducible rfl))
 try simp only [pA, pB, pC, pD]
 refine tkH 3 (oi := { dst := some 77, op := Op.move (Operand.tmp 8), type := 3, pos := "syntax.go:189", after := #[], guard := none }) (v := ?_) rfl ?_ ?_
 case refine_2 => (intro w hSw; (try dsimp only at hSw); go_simp; (try with_reducible rfl))
 try simp only [pA, pB, pC, pD]
 refine tkH 4 (oi := { dst := some 78, op := Op.fieldAddr 30 (Operand.tmp 5) 5, type := 0, pos := "syntax.go:189", after := #[], guard := none }) (v := ?_) rfl ?_ ?_
 case refine_2 => (intro w hSw; (try dsimp only at hSw); go_simp; (try with_reducible rfl))
 try simp only [pA, pB, pC, pD]
 refine tkH 5 (oi := { dst := some 79, op := Op.indexAddr 28 (Operand.tmp 78) (Operand.tmp 77), type := 0, pos := "syntax.go:189", after := #[gD 4, gD 3], guard := none }) (v := ?_) rfl ?_ ?_
 case refine_2 => (intro w hSw; (try dsimp only at hSw); go_simp; (try with_reducible rfl))
 try simp only [pA, pB, pC, pD]
 refine tkH 6 (oi := { dst := some 80, op := Op.load 22 (Operand.tmp 79), type := 22, pos := "syntax.go:189", after := #[gD 5], guard := none }) (v := ?_) rfl ?_ ?_
 case refine_2 => (intro w hSw; (try dsimp only at hSw); go_simp; (try with_reducible rfl))
 try simp only [pA, pB, pC, pD]
 refine tkH 11 (oi := { dst := some 84, op := Op.nilCheck (Operand.tmp 74), type := 0, pos := "syntax.go:189", after := #[gD 0], guard := none }) (v := ?_) rfl ?_ ?_
 case refine_2 => (intro w hSw; (try dsimp only at hSw); go_simp; (try with_reducible rfl))
 try simp only [pA, pB, pC, pD]
 refine tkH 12 (oi := { dst := some 85, op := Op.fieldAddr 30 (Operand.tmp 84) 5, type := 0, pos := "syntax.go:189", after := #[gD 11], guard := none }) (v := ?_) rfl ?_ ?_
 case refine_2 => (intro w hSw; (try dsimp only at hSw); go_simp; (try with_reducible rfl))
 try simp only [pA, pB, pC, pD]
 refine wpAnyH_ready (rs := [7]) (by kernel_rfl) (by simp) ?_
 refine AllReadyH.cons (o := { dst := some 81, op := Op.call { callee := Callee.value (Operand.func 153), args := #[Operand.tmp 76, Operand.tmp 80], argTypes := #[174, 22] }, type := 154, pos := "syntax.go:189", after := #[gD 2, gD 6], guard := none }) rfl (fun K hK => ?_) AllReadyH.nil
 go_simp
 go_at_call 153
 obtain ⟨kx, kd⟩ := ho_keep HXX.out HDD.out HI03.out
 refine (sep_lqF (BxF.obj p) HSd.out (fun G hG hs => UB0.out _ G _ hG (kx.imp (fun W h => h.1.2.1)) (fun k hk hg => kd k hk (hs k hg)))).mono ?_; rintro e w5 ⟨t, P0, G5, ⟨u0, x0, rfl, hp⟩, h5, st5⟩
 obtain ⟨rfl, rfl⟩ := Prod.mk.inj hp
 have HS04 := Lib.hid h5
 have HI04 := Lib.hid (HI03.out.trans st5)
 obtain ⟨au0, lu0, cu0, rfl⟩ := (bx_has h5).2.1.slf
 have hx5 := (bx_has h5).2.2
 clear h5 st5 kx kd hp UB0 HSd HS01 HS02 HI01 HI02 HI03
 refine hK.out _ _ ((HB.out _ _ HI04.out).cell rfl) (fun hHeld => ?_)
 clear hK K
 try simp only [pA, pB, pC, pD]
 refine tkH 8 (oi := { dst := some 73, op := Op.move (Operand.tmp 81), type := 154, pos := "syntax.go:189", after := #[gD 7], guard := none }) (v := ?_) rfl ?_ ?_
 case refine_2 => (intro w hSw; (try dsimp only at hSw); go_simp; (try with_reducible rfl))
 try simp only [pA, pB, pC, pD]
 refine tkH 9 (oi := { dst := some 82, op := Op.extract (Operand.tmp 73) 0, type := 22, pos := "syntax.go:189", after := #[gD 8], guard := none }) (v := ?_) rfl ?_ ?_
 case refine_2 => (intro w hSw; (try dsimp only at hSw); go_simp; (try with_reducible rfl))
 try simp only [pA, pB, pC, pD]
 refine tkH 10 (oi := { dst := some 83, op := Op.extract (Operand.tmp 73) 1, type := 37, pos := "syntax.go:189", after := #[gD 8, gO 14], guard := none }) (v := ?_) rfl ?_ ?_
 case refine_2 => (intro w hSw; (try dsimp only at hSw); go_simp; (try with_reducible rfl))
 try simp only [pA, pB, pC, pD]
 refine tkH 13 (oi := { dst := some 86, op := Op.indexAddr 28 (Operand.tmp 85) (Operand.tmp 75), type := 0, pos := "syntax.go:189", after := #[gD 12, gD 1, gP 0, gP 1, gP 2, gP 3, gP 4, gP 5, gP 6, gP 7, gP 8, gP 9, gT 10], guard := none }) (v := ?_) rfl ?_ ?_
 case refine_2 => (intro w hSw; (try dsimp only at hSw); go_simp; (try with_reducible rfl))
 try simp only [pA, pB, pC, pD]
 obtain ⟨⟨g0, g1, g2, g3, g4, g5, g6, g7, g8, g9, g10, g11, g12⟩, -⟩ := sq_cells (HB.out _ _ HI04.out)
 obtain ⟨⟨c0', c1', c2', c3', c4', c5', c6', c7', c8', c9', c10', c11', c12'⟩, f0, f1, f2, f3, f4, f5, f6, f7, f8, f9, f10, f11, f12⟩ := sq_cells (bx_box HS04.out)
 have hs := bx_set (RdF.obj a bs) HS04.out 9 (.slice au0 lu0 cu0)
 have HS05 : Hid (Sep (Sep (RdF a bs) (BxF p)) HoF (w5.setCell ⟨p, 9, none⟩ (.slice au0 lu0 cu0)) _ ((_, #[.int .i64 3, .int .i64 0, .int .i64 (m0 : Int), .int .i64 0, .int .i64 0, .int .i64 0, .int .i64 0, .int .i64 0, .slice none 0 0, .slice au0 lu0 cu0, .slice none 0 0, .slice none 0 0, .slice none 0 0]), _)) := hs.1
 have HI05 := Lib.hid (HI04.out.trans hs.2)
 clear hs
 refine wpAnyH_ready (rs := [14]) (by kernel_rfl) (by simp) ?_
 refine AllReadyH.cons (o := { dst := none, op := Op.store 22 (Operand.tmp 86) (Operand.tmp 82), type := 0, pos := "syntax.go:189", after := #[gD 13, gD 9, gC 7, gP 0, gP 1, gP 2, gP 3, gP 4, gP 5, gP 6, gP 7, gP 8, gP 9, gT 10], guard := none }) rfl (fun K hK => ?_) AllReadyH.nil
 go_simp
 refine hK.out _ _ ((HB.out _ _ HI05.out).cell rfl) (fun hHeld => ?_)
 clear hK K
 try simp only [pA, pB, pC, pD]
 refine tkH 15 (oi := { dst := some 7, op := Op.assign (Operand.tmp 83), type := 37, pos := "syntax.go:189", after := #[gD 10, gC 14, gP 0, gP 1, gP 2, gP 3, gP 4, gP 5, gP 6, gP 7, gP 8, gP 9, gP 10, gP 11, gP 12, gP 13, gP 14], guard := none }) (v := ?_) rfl ?_ ?_
 case refine_2 => (intro w hSw; (try dsimp only at hSw); go_simp; (try with_reducible rfl))
 try simp only [pA, pB, pC, pD]
 refine wpAnyH_done (by kernel_rfl) ?_ _
 clear g0 g1 g2 g3 g4 g5 g6 g7 g8 g9 g10 g11 g12 c0' c1' c2' c3' c4' c5' c6' c7' c8' c9' c10' c11' c12' f0 f1 f2 f3 f4 f5 f6 f7 f8 f9 f10 f11 f12
 generalize w5.setCell _ _ = w6 at HS05 HI05 ⊢
 have HZ : Hid (Step F w _ _) := HG0.out.trans HI05.out
 cases f0 with
 | some f =>
   obtain ⟨xt, xv, rfl⟩ := ErrIs.ne hx5
   clear hx5
   go_wp2
   go_ret
   exact ⟨_, _, CpR.bad (HR.out.1 _ rfl) rfl (fun W h => h.2.2), HS05.out, HZ.out⟩
 | none =>
   obtain rfl : x0 = .nilIface := hx5
   clear HZ
   go_wp2_with fail
   obtain ⟨wz0, hwz⟩ : ∃ z, z = w6 := ⟨_, rfl⟩
   subst hwz
   have HI05' := Lib.hid (HI05.out.ext ((Ext.refl wz0).drew))
   have HSd := Lib.hid (Obj.ext (((RdF.obj a bs).sep (BxF.obj p)).sep HoF.obj) HS05.out ((Ext.refl wz0).drew))
   rw [rounds_succ]
   go_wp2_with fail
   refine wp_region_held_drew (S := fun w' => w'.cell? ⟨w.heap.size, 3, none⟩ = some (.int .i64 gb)) (by kernel_rfl) ((HB.out _ _ HI05'.out).cell rfl) (fun hHeld => ?_)
   refine tkH 0 (oi := { dst := some 62, op := Op.move (Operand.tmp 0), type := 226, pos := "syntax.go:188", after := #[], guard := none }) (v := ?_) rfl ?_ ?_
   case refine_2 => (intro w hSw; (try dsimp only at hSw); go_simp; (try with_reducible rfl))
   try simp only [pA, pB, pC, pD]
   refine tkH 1 (oi := { dst := some 63, op := Op.move (Operand.tmp 8), type := 3, pos := "syntax.go:188", after := #[], guard := none }) (v := ?_) rfl ?_ ?_
   case refine_2 => (intro w hSw; (try dsimp only at hSw); go_simp; (try with_reducible rfl))
   try simp only [pA, pB, pC, pD]
   refine tkH 2 (oi := { dst := some 64, op := Op.move (Operand.tmp 1), type := 174, pos := "syntax.go:188", after := #[], guard := none }) (v := ?_) rfl ?_ ?_
   case refine_2 => (intro w hSw; (try dsimp only at hSw); go_simp; (try with_reducible rfl))
   try simp only [pA, pB, pC, pD]
   refine tkH 3 (oi := { dst := some 65, op := Op.move (Operand.tmp 8), type := 3, pos := "syntax.go:188", after := #[], guard := none }) (v := ?_) rfl ?_ ?_
   case refine_2 => (intro w hSw; (try dsimp only at hSw); go_simp; (try with_reducible rfl))
   try simp only [pA, pB, pC, pD]
   refine tkH 4 (oi := { dst := some 66, op := Op.fieldAddr 30 (Operand.tmp 5) 2, type := 0, pos := "syntax.go:188", after := #[], guard := none }) (v := ?_) rfl ?_ ?_
   case refine_2 => (intro w hSw; (try dsimp only at hSw); go_simp; (try with_reducible rfl))
   try simp only [pA, pB, pC, pD]
   refine tkH 5 (oi := { dst := some 67, op := Op.indexAddr 25 (Operand.tmp 66) (Operand.tmp 65), type := 0, pos := "syntax.go:188", after := #[gD 4, gD 3], guard := none }) (v := ?_) rfl ?_ ?_
   case refine_2 => (intro w hSw; (try dsimp only at hSw); go_simp; (try with_reducible rfl))
   try simp only [pA, pB, pC, pD]
   refine tkH 6 (oi := { dst := some 68, op := Op.load 3 (Operand.tmp 67), type := 3, pos := "syntax.go:188", after := #[gD 5], guard := none }) (v := ?_) rfl ?_ ?_
   case refine_2 => (intro w hSw; (try dsimp only at hSw); go_simp; (try with_reducible rfl))
   try simp only [pA, pB, pC, pD]
   refine tkH 8 (oi := { dst := some 70, op := Op.nilCheck (Operand.tmp 62), type := 0, pos := "syntax.go:188", after := #[gD 0], guard := none }) (v := ?_) rfl ?_ ?_
   case refine_2 => (intro w hSw; (try dsimp only at hSw); go_simp; (try with_reducible rfl))
   try simp only [pA, pB, pC, pD]
   refine tkH 9 (oi := { dst := some 71, op := Op.fieldAddr 30 (Operand.tmp 70) 2, type := 0, pos := "syntax.go:188", after := #[gD 8], guard := none }) (v := ?_) rfl ?_ ?_
   case refine_2 => (intro w hSw; (try dsimp only at hSw); go_simp; (try with_reducible rfl))
   try simp only [pA, pB, pC, pD]
   refine wpAnyH_ready (rs := [7]) (by kernel_rfl) (by simp) ?_
   refine AllReadyH.cons (o := { dst := some 69, op := Op.call { callee := Callee.value (Operand.func 152), args := #[Operand.tmp 64, Operand.tmp 68], argTypes := #[174, 3] }, type := 3, pos := "syntax.go:188", after := #[gD 2, gD 6], guard := none }) rfl (fun K hK => ?_) AllReadyH.nil
   go_simp
   go_at_call 152
   refine (bx_f HSd.out (fun G hG => UA1.out G _ hG)).mono ?_; rintro e w1 ⟨rfl, G1, h1, st1⟩
   have HS11 := Lib.hid h1
   have HI11 := Lib.hid (HI05'.out.trans st1)
   clear h1 st1 HSd HS05 HI05 HI05' UA1
   refine hK.out _ _ ((HB.out _ _ HI11.out).cell rfl) (fun hHeld => ?_)
   clear hK K
   try simp only [pA, pB, pC, pD]
   refine tkH 10 (oi := { dst := some 72, op := Op.indexAddr 25 (Operand.tmp 71) (Operand.tmp 63), type := 0, pos := "syntax.go:188", after := #[gD 9, gD 1, gP 0, gP 1, gP 2, gP 3, gP 4, gP 5, gP 6, gP 7], guard := none }) (v := ?_) rfl ?_ ?_
   case refine_2 => (intro w hSw; (try dsimp only at hSw); go_simp; (try with_reducible rfl))
   try simp only [pA, pB, pC, pD]
   obtain ⟨⟨g0, g1, g2, g3, g4, g5, g6, g7, g8, g9, g10, g11, g12⟩, -⟩ := sq_cells (HB.out _ _ HI11.out)
   obtain ⟨⟨c0', c1', c2', c3', c4', c5', c6', c7', c8', c9', c10', c11', c12'⟩, f0, f1, f2, f3, f4, f5, f6, f7, f8, f9, f10, f11, f12⟩ := sq_cells (bx_box HS11.out)
   have hs := bx_set (RdF.obj a bs) HS11.out 3 (.int .i64 (m1 : Int))
   have HS12 : Hid (Sep (Sep (RdF a bs) (BxF p)) HoF (w1.setCell ⟨p, 3, none⟩ (.int .i64 (m1 : Int))) _ ((_, #[.int .i64 3, .int .i64 0, .int .i64 (m0 : Int), .int .i64 (m1 : Int), .int .i64 0, .int .i64 0, .int .i64 0, .int .i64 0, .slice none 0 0, .slice au0 lu0 cu0, .slice none 0 0, .slice none 0 0, .slice none 0 0]), _)) := hs.1
   have HI12 := Lib.hid (HI11.out.trans hs.2)
   clear hs
   refine wpAnyH_ready (rs := [11]) (by kernel_rfl) (by simp) ?_
   refine AllReadyH.cons (o := { dst := none, op := Op.store 3 (Operand.tmp 72) (Operand.tmp 69), type := 0, pos := "syntax.go:188", after := #[gD 10, gD 7, gC 7, gP 0, gP 1, gP 2, gP 3, gP 4, gP 5, gP 6, gP 7], guard := none }) rfl (fun K hK => ?_) AllReadyH.nil
   go_simp
   refine hK.out _ _ ((HB.out _ _ HI12.out).cell rfl) (fun hHeld => ?_)
   clear hK K
   try simp only [pA, pB, pC, pD]
   refine wpAnyH_done (by kernel_rfl) ?_ _
   clear g0 g1 g2 g3 g4 g5 g6 g7 g8 g9 g10 g11 g12 c0' c1' c2' c3' c4' c5' c6' c7' c8' c9' c10' c11' c12' f0 f1 f2 f3 f4 f5 f6 f7 f8 f9 f10 f11 f12
   generalize w1.setCell _ _ = w2 at HS12 HI12 ⊢
   have HI13 := Lib.hid (HI12.out.ext ((Ext.refl w2).drew))
   have HSd := Lib.hid (Obj.ext (((RdF.obj a bs).sep (BxF.obj p)).sep HoF.obj) HS12.out ((Ext.refl w2).drew))
   go_wp2_with fail
   refine wp_region_held_drew (S := fun w' => w'.cell? ⟨w.heap.size, 10, none⟩ = some (.slice a1 l1 c1)) (by kernel_rfl) ((HB.out _ _ HI13.out).cell rfl) (fun hHeld => ?_)
   refine tkH 0 (oi := { dst := some 74, op := Op.move (Operand.tmp 0), type := 226, pos := "syntax.go:189", after := #[], guard := none }) (v := ?_) rfl ?_ ?_
   case refine_2 => (intro w hSw; (try dsimp only at hSw); go_simp; (try with_reducible rfl))
   try simp only [pA, pB, pC, pD]
   refine tkH 1 (oi := { dst := some 75, op := Op.move (Operand.tmp 8), type := 3, pos := "syntax.go:189", after := #[], guard := none }) (v := ?_) rfl ?_ ?_
   case refine_2 => (intro w hSw; (try dsimp only at hSw); go_simp; (try with_reducible rfl))
   try simp only [pA, pB, pC, pD]
   refine tkH 2 (oi := { dst := some 76, op := Op.move (Operand.tmp 1), type := 174, pos := "syntax.go:189", after := #[], guard := none }) (v := ?_) rfl ?_ ?_
   case refine_2 => (intro w hSw; (try dsimp only at hSw); go_simp; (try with_reducible rfl))
   try simp only [pA, pB, pC, pD]
   refine tkH 3 (oi := { dst := some 77, op := Op.move (Operand.tmp 8), type := 3, pos := "syntax.go:189", after := #[], guard := none }) (v := ?_) rfl ?_ ?_
   case refine_2 => (intro w hSw; (try dsimp only at hSw); go_simp; (try with_reducible rfl))
   try simp only [pA, pB, pC, pD]
   refine tkH 4 (oi := { dst := some 78, op := Op.fieldAddr 30 (Operand.tmp 5) 5, type := 0, pos := "syntax.go:189", after := #[], guard := none }) (v := ?_) rfl ?_ ?_
   case refine_2 => (intro w hSw; (try dsimp only at hSw); go_simp; (try with_reducible rfl))
   try simp only [pA, pB, pC, pD]
   refine tkH 5 (oi := { dst := some 79, op := Op.indexAddr 28 (Operand.tmp 78) (Operand.tmp 77), type := 0, pos := "syntax.go:189", after := #[gD 4, gD 3], guard := none }) (v := ?_) rfl ?_ ?_
   case refine_2 => (intro w hSw; (try dsimp only at hSw); go_simp; (try with_reducible rfl))
   try simp only [pA, pB, pC, pD]
   refine tkH 6 (oi := { dst := some 80, op := Op.load 22 (Operand.tmp 79), type := 22, pos := "syntax.go:189", after := #[gD 5], guard := none }) (v := ?_) rfl ?_ ?_
   case refine_2 => (intro w hSw; (try dsimp only at hSw); go_simp; (try with_reducible rfl))
   try simp only [pA, pB, pC, pD]
   refine tkH 11 (oi := { dst := some 84, op := Op.nilCheck (Operand.tmp 74), type := 0, pos := "syntax.go:189", after := #[gD 0], guard := none }) (v := ?_) rfl ?_ ?_
   case refine_2 => (intro w hSw; (try dsimp only at hSw); go_simp; (try with_reducible rfl))
   try simp only [pA, pB, pC, pD]
   refine tkH 12 (oi := { dst := some 85, op := Op.fieldAddr 30 (Operand.tmp 84) 5, type := 0, pos := "syntax.go:189", after := #[gD 11], guard := none }) (v := ?_) rfl ?_ ?_
   case refine_2 => (intro w hSw; (try dsimp only at hSw); go_simp; (try with_reducible rfl))
   try simp only [pA, pB, pC, pD]
   refine wpAnyH_ready (rs := [7]) (by kernel_rfl) (by simp) ?_
   refine AllReadyH.cons (o := { dst := some 81, op := Op.call { callee := Callee.value (Operand.func 153), args := #[Operand.tmp 76, Operand.tmp 80], argTypes := #[174, 22] }, type := 154, pos := "syntax.go:189", after := #[gD 2, gD 6], guard := none }) rfl (fun K hK => ?_) AllReadyH.nil
   go_simp
   go_at_call 153
   obtain ⟨kx, kd⟩ := ho_keep HXX.out HDD.out HI13.out
   refine (sep_lqF (BxF.obj p) HSd.out (fun G hG hs => UB1.out _ G _ hG (kx.imp (fun W h => h.1.2.2.1)) (fun k hk hg => kd k hk (hs k hg)))).mono ?_; rintro e w5 ⟨t, P1, G5, ⟨u1, x1, rfl, hp⟩, h5, st5⟩
   obtain ⟨rfl, rfl⟩ := Prod.mk.inj hp
   have HS14 := Lib.hid h5
   have HI14 := Lib.hid (HI13.out.trans st5)
   obtain ⟨au1, lu1, cu1, rfl⟩ := (bx_has h5).2.1.slf
   have hx5 := (bx_has h5).2.2
   clear h5 st5 kx kd hp UB1 HSd HS11 HS12 HI11 HI12 HI13
   refine hK.out _ _ ((HB.out _ _ HI14.out).cell rfl) (fun hHeld => ?_)
   clear hK K
   try simp only [pA, pB, pC, pD]
   refine tkH 8 (oi := { dst := some 73, op := Op.move (Operand.tmp 81), type := 154, pos := "syntax.go:189", after := #[gD 7], guard := none }) (v := ?_) rfl ?_ ?_
   case refine_2 => (intro w hSw; (try dsimp only at hSw); go_simp; (try with_reducible rfl))
   try simp only [pA, pB, pC, pD]
   refine tkH 9 (oi := { dst := some 82, op := Op.extract (Operand.tmp 73) 0, type := 22, pos := "syntax.go:189", after := #[gD 8], guard := none }) (v := ?_) rfl ?_ ?_
   case refine_2 => (intro w hSw; (try dsimp only at hSw); go_simp; (try with_reducible rfl))
   try simp only [pA, pB, pC, pD]
   refine tkH 10 (oi := { dst := some 83, op := Op.extract (Operand.tmp 73) 1, type := 37, pos := "syntax.go:189", after := #[gD 8, gO 14], guard := none }) (v := ?_) rfl ?_ ?_
   case refine_2 => (intro w hSw; (try dsimp only at hSw); go_simp; (try with_reducible rfl))
   try simp only [pA, pB, pC, pD]
   refine tkH 13 (oi := { dst := some 86, op := Op.indexAddr 28 (Operand.tmp 85) (Operand.tmp 75), type := 0, pos := "syntax.go:189", after := #[gD 12, gD 1, gP 0, gP 1, gP 2, gP 3, gP 4, gP 5, gP 6, gP 7, gP 8, gP 9, gT 10], guard := none }) (v := ?_) rfl ?_ ?_
   case refine_2 => (intro w hSw; (try dsimp only at hSw); go_simp; (try with_reducible rfl))
   try simp only [pA, pB, pC, pD]
   obtain ⟨⟨g0, g1, g2, g3, g4, g5, g6, g7, g8, g9, g10, g11, g12⟩, -⟩ := sq_cells (HB.out _ _ HI14.out)
   obtain ⟨⟨c0', c1', c2', c3', c4', c5', c6', c7', c8', c9', c10', c11', c12'⟩, f0, f1, f2, f3, f4, f5, f6, f7, f8, f9, f10, f11, f12⟩ := sq_cells (bx_box HS14.out)
   have hs := bx_set (RdF.obj a bs) HS14.out 10 (.slice au1 lu1 cu1)
   have HS15 : Hid (Sep (Sep (RdF a bs) (BxF p)) HoF (w5.setCell ⟨p, 10, none⟩ (.slice au1 lu1 cu1)) _ ((_, #[.int .i64 3, .int .i64 0, .int .i64 (m0 : Int), .int .i64 (m1 : Int), .int .i64 0, .int .i64 0, .int .i64 0, .int .i64 0, .slice none 0 0, .slice au0 lu0 cu0, .slice au1 lu1 cu1, .slice none 0 0, .slice none 0 0]), _)) := hs.1
   have HI15 := Lib.hid (HI14.out.trans hs.2)
   clear hs
   refine wpAnyH_ready (rs := [14]) (by kernel_rfl) (by simp) ?_
   refine AllReadyH.cons (o := { dst := none, op := Op.store 22 (Operand.tmp 86) (Operand.tmp 82), type := 0, pos := "syntax.go:189", after := #[gD 13, gD 9, gC 7, gP 0, gP 1, gP 2, gP 3, gP 4, gP 5, gP 6, gP 7, gP 8, gP 9, gT 10], guard := none }) rfl (fun K hK => ?_) AllReadyH.nil
   go_simp
   refine hK.out _ _ ((HB.out _ _ HI15.out).cell rfl) (fun hHeld => ?_)
   clear hK K
   try simp only [pA, pB, pC, pD]
   refine tkH 15 (oi := { dst := some 7, op := Op.assign (Operand.tmp 83), type := 37, pos := "syntax.go:189", after := #[gD 10, gC 14, gP 0, gP 1, gP 2, gP 3, gP 4, gP 5, gP 6, gP 7, gP 8, gP 9, gP 10, gP 11, gP 12, gP 13, gP 14], guard := none }) (v := ?_) rfl ?_ ?_
   case refine_2 => (intro w hSw; (try dsimp only at hSw); go_simp; (try with_reducible rfl))
   try simp only [pA, pB, pC, pD]
   refine wpAnyH_done (by kernel_rfl) ?_ _
   clear g0 g1 g2 g3 g4 g5 g6 g7 g8 g9 g10 g11 g12 c0' c1' c2' c3' c4' c5' c6' c7' c8' c9' c10' c11' c12' f0 f1 f2 f3 f4 f5 f6 f7 f8 f9 f10 f11 f12
   generalize w5.setCell _ _ = w6 at HS15 HI15 ⊢
   have HZ : Hid (Step F w _ _) := HG0.out.trans HI15.out
   cases f1 with
   | some f =>
     obtain ⟨xt, xv, rfl⟩ := ErrIs.ne hx5
     clear hx5
     go_wp2
     go_ret
     exact ⟨_, _, CpR.bad ((HR.out.2 (by first | rfl | trivial)).1 _ rfl) rfl (fun W h => h.2.2), HS15.out, HZ.out⟩
   | none =>
     obtain rfl : x1 = .nilIface := hx5
     clear HZ
     go_wp2_with fail
     obtain ⟨wz1, hwz⟩ : ∃ z, z = w6 := ⟨_, rfl⟩
     subst hwz
     have HI15' := Lib.hid (HI15.out.ext ((Ext.refl wz1).drew))
     have HSd := Lib.hid (Obj.ext (((RdF.obj a bs).sep (BxF.obj p)).sep HoF.obj) HS15.out ((Ext.refl wz1).drew))
     rw [rounds_succ]
     go_wp2_with fail
     refine wp_region_held_drew (S := fun w' => w'.cell? ⟨w.heap.size, 4, none⟩ = some (.int .i64 gc)) (by kernel_rfl) ((HB.out _ _ HI15'.out).cell rfl) (fun hHeld => ?_)
     refine tkH 0 (oi := { dst := some 62, op := Op.move (Operand.tmp 0), type := 226, pos := "syntax.go:188", after := #[], guard := none }) (v := ?_) rfl ?_ ?_
     case refine_2 => (intro w hSw; (try dsimp only at hSw); go_simp; (try with_reducible rfl))
     try simp only [pA, pB, pC, pD]
     refine tkH 1 (oi := { dst := some 63, op := Op.move (Operand.tmp 8), type := 3, pos := "syntax.go:188", after := #[], guard := none }) (v := ?_) rfl ?_ ?_
     case refine_2 => (intro w hSw; (try dsimp only at hSw); go_simp; (try with_reducible rfl))
     try simp only [pA, pB, pC, pD]
     refine tkH 2 (oi := { dst := some 64, op := Op.move (Operand.tmp 1), type := 174, pos := "syntax.go:188", after := #[], guard := none }) (v := ?_) rfl ?_ ?_
     case refine_2 => (intro w hSw; (try dsimp only at hSw); go_simp; (try with_reducible rfl))
     try simp only [pA, pB, pC, pD]
     refine tkH 3 (oi := { dst := some 65, op := Op.move (Operand.tmp 8), type := 3, pos := "syntax.go:188", after := #[], guard := none }) (v := ?_) rfl ?_ ?_
     case refine_2 => (intro w hSw; (try dsimp only at hSw); go_simp; (try with_reducible rfl))
     try simp only [pA, pB, pC, pD]
     refine tkH 4 (oi := { dst := some 66, op := Op.fieldAddr 30 (Operand.tmp 5) 2, type := 0, pos := "syntax.go:188", after := #[], guard := none }) (v := ?_) rfl ?_ ?_
     case refine_2 => (intro w hSw; (try dsimp only at hSw); go_simp; (try with_reducible rfl))
     try simp only [pA, pB, pC, pD]
     refine tkH 5 (oi := { dst := some 67, op := Op.indexAddr 25 (Operand.tmp 66) (Operand.tmp 65), type := 0, pos := "syntax.go:188", after := #[gD 4, gD 3], guard := none }) (v := ?_) rfl ?_ ?_
     case refine_2 => (intro w hSw; (try dsimp only at hSw); go_simp; (try with_reducible rfl))
     try simp only [pA, pB, pC, pD]
     refine tkH 6 (oi := { dst := some 68, op := Op.load 3 (Operand.tmp 67), type := 3, pos := "syntax.go:188", after := #[gD 5], guard := none }) (v := ?_) rfl ?_ ?_
     case refine_2 => (intro w hSw; (try dsimp only at hSw); go_simp; (try with_reducible rfl))
     try simp only [pA, pB, pC, pD]
     refine tkH 8 (oi := { dst := some 70, op := Op.nilCheck (Operand.tmp 62), type := 0, pos := "syntax.go:188", after := #[gD 0], guard := none }) (v := ?_) rfl ?_ ?_
     case refine_2 => (intro w hSw; (try dsimp only at hSw); go_simp; (try with_reducible rfl))
     try simp only [pA, pB, pC, pD]
     refine tkH 9 (oi := { dst := some 71, op := Op.fieldAddr 30 (Operand.tmp 70) 2, type := 0, pos := "syntax.go:188", after := #[gD 8], guard := none }) (v := ?_) rfl ?_ ?_
     case refine_2 => (intro w hSw; (try dsimp only at hSw); go_simp; (try with_reducible rfl))
     try simp only [pA, pB, pC, pD]
     refine wpAnyH_ready (rs := [7]) (by kernel_rfl) (by simp) ?_
     refine AllReadyH.cons (o := { dst := some 69, op := Op.call { callee := Callee.value (Operand.func 152), args := #[Operand.tmp 64, Operand.tmp 68], argTypes := #[174, 3] }, type := 3, pos := "syntax.go:188", after := #[gD 2, gD 6], guard := none }) rfl (fun K hK => ?_) AllReadyH.nil
     go_simp
     go_at_call 152
     refine (bx_f HSd.out (fun G hG => UA2.out G _ hG)).mono ?_; rintro e w1 ⟨rfl, G1, h1, st1⟩
     have HS21 := Lib.hid h1
     have HI21 := Lib.hid (HI15'.out.trans st1)
     clear h1 st1 HSd HS15 HI15 HI15' UA2
     refine hK.out _ _ ((HB.out _ _ HI21.out).cell rfl) (fun hHeld => ?_)
     clear hK K
     try simp only [pA, pB, pC, pD]
     refine tkH 10 (oi := { dst := some 72, op := Op.indexAddr 25 (Operand.tmp 71) (Operand.tmp 63), type := 0, pos := "syntax.go:188", after := #[gD 9, gD 1, gP 0, gP 1, gP 2, gP 3, gP 4, gP 5, gP 6, gP 7], guard := none }) (v := ?_) rfl ?_ ?_
     case refine_2 => (intro w hSw; (try dsimp only at hSw); go_simp; (try with_reducible rfl))
     try simp only [pA, pB, pC, pD]
     obtain ⟨⟨g0, g1, g2, g3, g4, g5, g6, g7, g8, g9, g10, g11, g12⟩, -⟩ := sq_cells (HB.out _ _ HI21.out)
     obtain ⟨⟨c0', c1', c2', c3', c4', c5', c6', c7', c8', c9', c10', c11', c12'⟩, f0, f1, f2, f3, f4, f5, f6, f7, f8, f9, f10, f11, f12⟩ := sq_cells (bx_box HS21.out)
     have hs := bx_set (RdF.obj a bs) HS21.out 4 (.int .i64 (m2 : Int))
     have HS22 : Hid (Sep (Sep (RdF a bs) (BxF p)) HoF (w1.setCell ⟨p, 4, none⟩ (.int .i64 (m2 : Int))) _ ((_, #[.int .i64 3, .int .i64 0, .int .i64 (m0 : Int), .int .i64 (m1 : Int), .int .i64 (m2 : Int), .int .i64 0, .int .i64 0, .int .i64 0, .slice none 0 0, .slice au0 lu0 cu0, .slice au1 lu1 cu1, .slice none 0 0, .slice none 0 0]), _)) := hs.1
     have HI22 := Lib.hid (HI21.out.trans hs.2)
     clear hs
     refine wpAnyH_ready (rs := [11]) (by kernel_rfl) (by simp) ?_
     refine AllReadyH.cons (o := { dst := none, op := Op.store 3 (Operand.tmp 72) (Operand.tmp 69), type := 0, pos := "syntax.go:188", after := #[gD 10, gD 7, gC 7, gP 0, gP 1, gP 2, gP 3, gP 4, gP 5, gP 6, gP 7], guard := none }) rfl (fun K hK => ?_) AllReadyH.nil
     go_simp
     refine hK.out _ _ ((HB.out _ _ HI22.out).cell rfl) (fun hHeld => ?_)
     clear hK K
     try simp only [pA, pB, pC, pD]
     refine wpAnyH_done (by kernel_rfl) ?_ _
     clear g0 g1 g2 g3 g4 g5 g6 g7 g8 g9 g10 g11 g12 c0' c1' c2' c3' c4' c5' c6' c7' c8' c9' c10' c11' c12' f0 f1 f2 f3 f4 f5 f6 f7 f8 f9 f10 f11 f12
     generalize w1.setCell _ _ = w2 at HS22 HI22 ⊢
     have HI23 := Lib.hid (HI22.out.ext ((Ext.refl w2).drew))
     have HSd := Lib.hid (Obj.ext (((RdF.obj a bs).sep (BxF.obj p)).sep HoF.obj) HS22.out ((Ext.refl w2).drew))
     go_wp2_with fail
     refine wp_region_held_drew (S := fun w' => w'.cell? ⟨w.heap.size, 11, none⟩ = some (.slice a2 l2 c2)) (by kernel_rfl) ((HB.out _ _ HI23.out).cell rfl) (fun hHeld => ?_)
     refine tkH 0 (oi := { dst := some 74, op := Op.move (Operand.tmp 0), type := 226, pos := "syntax.go:189", after := #[], guard := none }) (v := ?_) rfl ?_ ?_
     case refine_2 => (intro w hSw; (try dsimp only at hSw); go_simp; (try with_reducible rfl))
     try simp only [pA, pB, pC, pD]
     refine tkH 1 (oi := { dst := some 75, op := Op.move (Operand.tmp 8), type := 3, pos := "syntax.go:189", after := #[], guard := none }) (v := ?_) rfl ?_ ?_
     case refine_2 => (intro w hSw; (try dsimp only at hSw); go_simp; (try with_reducible rfl))
     try simp only [pA, pB, pC, pD]
     refine tkH 2 (oi := { dst := some 76, op := Op.move (Operand.tmp 1), type := 174, pos := "syntax.go:189", after := #[], guard := none }) (v := ?_) rfl ?_ ?_
     case refine_2 => (intro w hSw; (try dsimp only at hSw); go_simp; (try with_reducible rfl))
     try simp only [pA, pB, pC, pD]
     refine tkH 3 (oi := { dst := some 77, op := Op.move (Operand.tmp 8), type := 3, pos := "syntax.go:189", after := #[], guard := none }) (v := ?_) rfl ?_ ?_
     case refine_2 => (intro w hSw; (try dsimp only at hSw); go_simp; (try with_reducible rfl))
     try simp only [pA, pB, pC, pD]
     refine tkH 4 (oi := { dst := some 78, op := Op.fieldAddr 30 (Operand.tmp 5) 5, type := 0, pos := "syntax.go:189", after := #[], guard := none }) (v := ?_) rfl ?_ ?_
     case refine_2 => (intro w hSw; (try dsimp only at hSw); go_simp; (try with_reducible rfl))
     try simp only [pA, pB, pC, pD]
     refine tkH 5 (oi := { dst := some 79, op := Op.indexAddr 28 (Operand.tmp 78) (Operand.tmp 77), type := 0, pos := "syntax.go:189", after := #[gD 4, gD 3], guard := none }) (v := ?_) rfl ?_ ?_
     case refine_2 => (intro w hSw; (try dsimp only at hSw); go_simp; (try with_reducible rfl))
     try simp only [pA, pB, pC, pD]
     refine tkH 6 (oi := { dst := some 80, op := Op.load 22 (Operand.tmp 79), type := 22, pos := "syntax.go:189", after := #[gD 5], guard := none }) (v := ?_) rfl ?_ ?_
     case refine_2 => (intro w hSw; (try dsimp only at hSw); go_simp; (try with_reducible rfl))
     try simp only [pA, pB, pC, pD]
     refine tkH 11 (oi := { dst := some 84, op := Op.nilCheck (Operand.tmp 74), type := 0, pos := "syntax.go:189", after := #[gD 0], guard := none }) (v := ?_) rfl ?_ ?_
     case refine_2 => (intro w hSw; (try dsimp only at hSw); go_simp; (try with_reducible rfl))
     try simp only [pA, pB, pC, pD]
     refine tkH 12 (oi := { dst := some 85, op := Op.fieldAddr 30 (Operand.tmp 84) 5, type := 0, pos := "syntax.go:189", after := #[gD 11], guard := none }) (v := ?_) rfl ?_ ?_
     case refine_2 => (intro w hSw; (try dsimp only at hSw); go_simp; (try with_reducible rfl))
     try simp only [pA, pB, pC, pD]
     refine wpAnyH_ready (rs := [7]) (by kernel_rfl) (by simp) ?_
     refine AllReadyH.cons (o := { dst := some 81, op := Op.call { callee := Callee.value (Operand.func 153), args := #[Operand.tmp 76, Operand.tmp 80], argTypes := #[174, 22] }, type := 154, pos := "syntax.go:189", after := #[gD 2, gD 6], guard := none }) rfl (fun K hK => ?_) AllReadyH.nil
     go_simp
     go_at_call 153
     obtain ⟨kx, kd⟩ := ho_keep HXX.out HDD.out HI23.out
     refine (sep_lqF (BxF.obj p) HSd.out (fun G hG hs => UB2.out _ G _ hG (kx.imp (fun W h => h.1.2.2.2.1)) (fun k hk hg => kd k hk (hs k hg)))).mono ?_; rintro e w5 ⟨t, P2, G5, ⟨u2, x2, rfl, hp⟩, h5, st5⟩
     obtain ⟨rfl, rfl⟩ := Prod.mk.inj hp
     have HS24 := Lib.hid h5
     have HI24 := Lib.hid (HI23.out.trans st5)
     obtain ⟨au2, lu2, cu2, rfl⟩ := (bx_has h5).2.1.slf
     have hx5 := (bx_has h5).2.2
     clear h5 st5 kx kd hp UB2 HSd HS21 HS22 HI21 HI22 HI23
     refine hK.out _ _ ((HB.out _ _ HI24.out).cell rfl) (fun hHeld => ?_)
     clear hK K
     try simp only [pA, pB, pC, pD]
     refine tkH 8 (oi := { dst := some 73, op := Op.move (Operand.tmp 81), type := 154, pos := "syntax.go:189", after := #[gD 7], guard := none }) (v := ?_) rfl ?_ ?_
     case refine_2 => (intro w hSw; (try dsimp only at hSw); go_simp; (try with_reducible rfl))
     try simp only [pA, pB, pC, pD]
     refine tkH 9 (oi := { dst := some 82, op := Op.extract (Operand.tmp 73) 0, type := 22, pos := "syntax.go:189", after := #[gD 8], guard := none }) (v := ?_) rfl ?_ ?_
     case refine_2 => (intro w hSw; (try dsimp only at hSw); go_simp; (try with_reducible rfl))
     try simp only [pA, pB, pC, pD]
     refine tkH 10 (oi := { dst := some 83, op := Op.extract (Operand.tmp 73) 1, type := 37, pos := "syntax.go:189", after := #[gD 8, gO 14], guard := none }) (v := ?_) rfl ?_ ?_
     case refine_2 => (intro w hSw; (try dsimp only at hSw); go_simp; (try with_reducible rfl))
     try simp only [pA, pB, pC, pD]
     refine tkH 13 (oi := { dst := some 86, op := Op.indexAddr 28 (Operand.tmp 85) (Operand.tmp 75), type := 0, pos := "syntax.go:189", after := #[gD 12, gD 1, gP 0, gP 1, gP 2, gP 3, gP 4, gP 5, gP 6, gP 7, gP 8, gP 9, gT 10], guard := none }) (v := ?_) rfl ?_ ?_
     case refine_2 => (intro w hSw; (try dsimp only at hSw); go_simp; (try with_reducible rfl))
     try simp only [pA, pB, pC, pD]
     obtain ⟨⟨g0, g1, g2, g3, g4, g5, g6, g7, g8, g9, g10, g11, g12⟩, -⟩ := sq_cells (HB.out _ _ HI24.out)
     obtain ⟨⟨c0', c1', c2', c3', c4', c5', c6', c7', c8', c9', c10', c11', c12'⟩, f0, f1, f2, f3, f4, f5, f6, f7, f8, f9, f10, f11, f12⟩ := sq_cells (bx_box HS24.out)
     have hs := bx_set (RdF.obj a bs) HS24.out 11 (.slice au2 lu2 cu2)
     have HS25 : Hid (Sep (Sep (RdF a bs) (BxF p)) HoF (w5.setCell ⟨p, 11, none⟩ (.slice au2 lu2 cu2)) _ ((_, #[.int .i64 3, .int .i64 0, .int .i64 (m0 : Int), .int .i64 (m1 : Int), .int .i64 (m2 : Int), .int .i64 0, .int .i64 0, .int .i64 0, .slice none 0 0, .slice au0 lu0 cu0, .slice au1 lu1 cu1, .slice au2 lu2 cu2, .slice none 0 0]), _)) := hs.1
     have HI25 := Lib.hid (HI24.out.trans hs.2)
     clear hs
     refine wpAnyH_ready (rs := [14]) (by kernel_rfl) (by simp) ?_
     refine AllReadyH.cons (o := { dst := none, op := Op.store 22 (Operand.tmp 86) (Operand.tmp 82), type := 0, pos := "syntax.go:189", after := #[gD 13, gD 9, gC 7, gP 0, gP 1, gP 2, gP 3, gP 4, gP 5, gP 6, gP 7, gP 8, gP 9, gT 10], guard := none }) rfl (fun K hK => ?_) AllReadyH.nil
     go_simp
     refine hK.out _ _ ((HB.out _ _ HI25.out).cell rfl) (fun hHeld => ?_)
     clear hK K
     try simp only [pA, pB, pC, pD]
     refine tkH 15 (oi := { dst := some 7, op := Op.assign (Operand.tmp 83), type := 37, pos := "syntax.go:189", after := #[gD 10, gC 14, gP 0, gP 1, gP 2, gP 3, gP 4, gP 5, gP 6, gP 7, gP 8, gP 9, gP 10, gP 11, gP 12, gP 13, gP 14], guard := none }) (v := ?_) rfl ?_ ?_
     case refine_2 => (intro w hSw; (try dsimp only at hSw); go_simp; (try with_reducible rfl))
     try simp only [pA, pB, pC, pD]
     refine wpAnyH_done (by kernel_rfl) ?_ _
     clear g0 g1 g2 g3 g4 g5 g6 g7 g8 g9 g10 g11 g12 c0' c1' c2' c3' c4' c5' c6' c7' c8' c9' c10' c11' c12' f0 f1 f2 f3 f4 f5 f6 f7 f8 f9 f10 f11 f12
     generalize w5.setCell _ _ = w6 at HS25 HI25 ⊢
     have HZ : Hid (Step F w _ _) := HG0.out.trans HI25.out
     cases f2 with
     | some f =>
       obtain ⟨xt, xv, rfl⟩ := ErrIs.ne hx5
       clear hx5
       go_wp2
       go_ret
       exact ⟨_, _, CpR.bad (((HR.out.2 (by first | rfl | trivial)).2 (by first | rfl | trivial)).1 _ rfl) rfl (fun W h => h.2.2), HS25.out, HZ.out⟩
     | none =>
       obtain rfl : x2 = .nilIface := hx5
       clear HZ
       go_wp2_with fail
       obtain ⟨wz2, hwz⟩ : ∃ z, z = w6 := ⟨_, rfl⟩
       subst hwz
       have HI25' := Lib.hid (HI25.out.ext ((Ext.refl wz2).drew))
       have HSd := Lib.hid (Obj.ext (((RdF.obj a bs).sep (BxF.obj p)).sep HoF.obj) HS25.out ((Ext.refl wz2).drew))
       rw [rounds_succ]
       go_wp2_with fail
       refine wp_region_held_drew (S := fun w' => w'.cell? ⟨w.heap.size, 5, none⟩ = some (.int .i64 gd)) (by kernel_rfl) ((HB.out _ _ HI25'.out).cell rfl) (fun hHeld => ?_)
       refine tkH 0 (oi := { dst := some 62, op := Op.move (Operand.tmp 0), type := 226, pos := "syntax.go:188", after := #[], guard := none }) (v := ?_) rfl ?_ ?_
       case refine_2 => (intro w hSw; (try dsimp only at hSw); go_simp; (try with_reducible rfl))
       try simp only [pA, pB, pC, pD]
       refine tkH 1 (oi := { dst := some 63, op := Op.move (Operand.tmp 8), type := 3, pos := "syntax.go:188", after := #[], guard := none }) (v := ?_) rfl ?_ ?_
       case refine_2 => (intro w hSw; (try dsimp only at hSw); go_simp; (try with_reducible rfl))
       try simp only [pA, pB, pC, pD]
       refine tkH 2 (oi := { dst := some 64, op := Op.move (Operand.tmp 1), type := 174, pos := "syntax.go:188", after := #[], guard := none }) (v := ?_) rfl ?_ ?_
       case refine_2 => (intro w hSw; (try dsimp only at hSw); go_simp; (try with_reducible rfl))
       try simp only [pA, pB, pC, pD]
       refine tkH 3 (oi := { dst := some 65, op := Op.move (Operand.tmp 8), type := 3, pos := "syntax.go:188", after := #[], guard := none }) (v := ?_) rfl ?_ ?_
       case refine_2 => (intro w hSw; (try dsimp only at hSw); go_simp; (try with_reducible rfl))
       try simp only [pA, pB, pC, pD]
       refine tkH 4 (oi := { dst := some 66, op := Op.fieldAddr 30 (Operand.tmp 5) 2, type := 0, pos := "syntax.go:188", after := #[], guard := none }) (v := ?_) rfl ?_ ?_
       case refine_2 => (intro w hSw; (try dsimp only at hSw); go_simp; (try with_reducible rfl))
       try simp only [pA, pB, pC, pD]
       refine tkH 5 (oi := { dst := some 67, op := Op.indexAddr 25 (Operand.tmp 66) (Operand.tmp 65), type := 0, pos := "syntax.go:188", after := #[gD 4, gD 3], guard := none }) (v := ?_) rfl ?_ ?_
       case refine_2 => (intro w hSw; (try dsimp only at hSw); go_simp; (try with_reducible rfl))
       try simp only [pA, pB, pC, pD]
       refine tkH 6 (oi := { dst := some 68, op := Op.load 3 (Operand.tmp 67), type := 3, pos := "syntax.go:188", after := #[gD 5], guard := none }) (v := ?_) rfl ?_ ?_
       case refine_2 => (intro w hSw; (try dsimp only at hSw); go_simp; (try with_reducible rfl))
       try simp only [pA, pB, pC, pD]
       refine tkH 8 (oi := { dst := some 70, op := Op.nilCheck (Operand.tmp 62), type := 0, pos := "syntax.go:188", after := #[gD 0], guard := none }) (v := ?_) rfl ?_ ?_
       case refine_2 => (intro w hSw; (try dsimp only at hSw); go_simp; (try with_reducible rfl))
       try simp only [pA, pB, pC, pD]
       refine tkH 9 (oi := { dst := some 71, op := Op.fieldAddr 30 (Operand.tmp 70) 2, type := 0, pos := "syntax.go:188", after := #[gD 8], guard := none }) (v := ?_) rfl ?_ ?_
       case refine_2 => (intro w hSw; (try dsimp only at hSw); go_simp; (try with_reducible rfl))
       try simp only [pA, pB, pC, pD]
       refine wpAnyH_ready (rs := [7]) (by kernel_rfl) (by simp) ?_
       refine AllReadyH.cons (o := { dst := some 69, op := Op.call { callee := Callee.value (Operand.func 152), args := #[Operand.tmp 64, Operand.tmp 68], argTypes := #[174, 3] }, type := 3, pos := "syntax.go:188", after := #[gD 2, gD 6], guard := none }) rfl (fun K hK => ?_) AllReadyH.nil
       go_simp
       go_at_call 152
       refine (bx_f HSd.out (fun G hG => UA3.out G _ hG)).mono ?_; rintro e w1 ⟨rfl, G1, h1, st1⟩
       have HS31 := Lib.hid h1
       have HI31 := Lib.hid (HI25'.out.trans st1)
       clear h1 st1 HSd HS25 HI25 HI25' UA3
       refine hK.out _ _ ((HB.out _ _ HI31.out).cell rfl) (fun hHeld => ?_)
       clear hK K
       try simp only [pA, pB, pC, pD]
       refine tkH 10 (oi := { dst := some 72, op := Op.indexAddr 25 (Operand.tmp 71) (Operand.tmp 63), type := 0, pos := "syntax.go:188", after := #[gD 9, gD 1, gP 0, gP 1, gP 2, gP 3, gP 4, gP 5, gP 6, gP 7], guard := none }) (v := ?_) rfl ?_ ?_
       case refine_2 => (intro w hSw; (try dsimp only at hSw); go_simp; (try with_reducible rfl))
       try simp only [pA, pB, pC, pD]
       obtain ⟨⟨g0, g1, g2, g3, g4, g5, g6, g7, g8, g9, g10, g11, g12⟩, -⟩ := sq_cells (HB.out _ _ HI31.out)
       obtain ⟨⟨c0', c1', c2', c3', c4', c5', c6', c7', c8', c9', c10', c11', c12'⟩, f0, f1, f2, f3, f4, f5, f6, f7, f8, f9, f10, f11, f12⟩ := sq_cells (bx_box HS31.out)
       have hs := bx_set (RdF.obj a bs) HS31.out 5 (.int .i64 (m3 : Int))
       have HS32 : Hid (Sep (Sep (RdF a bs) (BxF p)) HoF (w1.setCell ⟨p, 5, none⟩ (.int .i64 (m3 : Int))) _ ((_, #[.int .i64 3, .int .i64 0, .int .i64 (m0 : Int), .int .i64 (m1 : Int), .int .i64 (m2 : Int), .int .i64 (m3 : Int), .int .i64 0, .int .i64 0, .slice none 0 0, .slice au0 lu0 cu0, .slice au1 lu1 cu1, .slice au2 lu2 cu2, .slice none 0 0]), _)) := hs.1
       have HI32 := Lib.hid (HI31.out.trans hs.2)
       clear hs
       refine wpAnyH_ready (rs := [11]) (by kernel_rfl) (by simp) ?_
       refine AllReadyH.cons (o := { dst := none, op := Op.store 3 (Operand.tmp 72) (Operand.tmp 69), type := 0, pos := "syntax.go:188", after := #[gD 10, gD 7, gC 7, gP 0, gP 1, gP 2, gP 3, gP 4, gP 5, gP 6, gP 7], guard := none }) rfl (fun K hK => ?_) AllReadyH.nil
       go_simp
       refine hK.out _ _ ((HB.out _ _ HI32.out).cell rfl) (fun hHeld => ?_)
       clear hK K
       try simp only [pA, pB, pC, pD]
       refine wpAnyH_done (by kernel_rfl) ?_ _
       clear g0 g1 g2 g3 g4 g5 g6 g7 g8 g9 g10 g11 g12 c0' c1' c2' c3' c4' c5' c6' c7' c8' c9' c10' c11' c12' f0 f1 f2 f3 f4 f5 f6 f7 f8 f9 f10 f11 f12
       generalize w1.setCell _ _ = w2 at HS32 HI32 ⊢
       have HI33 := Lib.hid (HI32.out.ext ((Ext.refl w2).drew))
       have HSd := Lib.hid (Obj.ext (((RdF.obj a bs).sep (BxF.obj p)).sep HoF.obj) HS32.out ((Ext.refl w2).drew))
       go_wp2_with fail
       refine wp_region_held_drew (S := fun w' => w'.cell? ⟨w.heap.size, 12, none⟩ = some (.slice a3 l3 c3)) (by kernel_rfl) ((HB.out _ _ HI33.out).cell rfl) (fun hHeld => ?_)
       refine tkH 0 (oi := { dst := some 74, op := Op.move (Operand.tmp 0), type := 226, pos := "syntax.go:189", after := #[], guard := none }) (v := ?_) rfl ?_ ?_
       case refine_2 => (intro w hSw; (try dsimp only at hSw); go_simp; (try with_reducible rfl))
       try simp only [pA, pB, pC, pD]
       refine tkH 1 (oi := { dst := some 75, op := Op.move (Operand.tmp 8), type := 3, pos := "syntax.go:189", after := #[], guard := none }) (v := ?_) rfl ?_ ?_
       case refine_2 => (intro w hSw; (try dsimp only at hSw); go_simp; (try with_reducible rfl))
       try simp only [pA, pB, pC, pD]
       refine tkH 2 (oi := { dst := some 76, op := Op.move (Operand.tmp 1), type := 174, pos := "syntax.go:189", after := #[], guard := none }) (v := ?_) rfl ?_ ?_
       case refine_2 => (intro w hSw; (try dsimp only at hSw); go_simp; (try with_reducible rfl))
       try simp only [pA, pB, pC, pD]
       refine tkH 3 (oi := { dst := some 77, op := Op.move (Operand.tmp 8), type := 3, pos := "syntax.go:189", after := #[], guard := none }) (v := ?_) rfl ?_ ?_
       case refine_2 => (intro w hSw; (try dsimp only at hSw); go_simp; (try with_reducible rfl))
       try simp only [pA, pB, pC, pD]
       refine tkH 4 (oi := { dst := some 78, op := Op.fieldAddr 30 (Operand.tmp 5) 5, type := 0, pos := "syntax.go:189", after := #[], guard := none }) (v := ?_) rfl ?_ ?_
       case refine_2 => (intro w hSw; (try dsimp only at hSw); go_simp; (try with_reducible rfl))
       try simp only [pA, pB, pC, pD]
       refine tkH 5 (oi := { dst := some 79, op := Op.indexAddr 28 (Operand.tmp 78) (Operand.tmp 77), type := 0, pos := "syntax.go:189", after := #[gD 4, gD 3], guard := none }) (v := ?_) rfl ?_ ?_
       case refine_2 => (intro w hSw; (try dsimp only at hSw); go_simp; (try with_reducible rfl))
       try simp only [pA, pB, pC, pD]
       refine tkH 6 (oi := { dst := some 80, op := Op.load 22 (Operand.tmp 79), type := 22, pos := "syntax.go:189", after := #[gD 5], guard := none }) (v := ?_) rfl ?_ ?_
       case refine_2 => (intro w hSw; (try dsimp only at hSw); go_simp; (try with_reducible rfl))
       try simp only [pA, pB, pC, pD]
       refine tkH 11 (oi := { dst := some 84, op := Op.nilCheck (Operand.tmp 74), type := 0, pos := "syntax.go:189", after := #[gD 0], guard := none }) (v := ?_) rfl ?_ ?_
       case refine_2 => (intro w hSw; (try dsimp only at hSw); go_simp; (try with_reducible rfl))
       try simp only [pA, pB, pC, pD]
       refine tkH 12 (oi := { dst := some 85, op := Op.fieldAddr 30 (Operand.tmp 84) 5, type := 0, pos := "syntax.go:189", after := #[gD 11], guard := none }) (v := ?_) rfl ?_ ?_
       case refine_2 => (intro w hSw; (try dsimp only at hSw); go_simp; (try with_reducible rfl))
       try simp only [pA, pB, pC, pD]
       refine wpAnyH_ready (rs := [7]) (by kernel_rfl) (by simp) ?_
       refine AllReadyH.cons (o := { dst := some 81, op := Op.call { callee := Callee.value (Operand.func 153), args := #[Operand.tmp 76, Operand.tmp 80], argTypes := #[174, 22] }, type := 154, pos := "syntax.go:189", after := #[gD 2, gD 6], guard := none }) rfl (fun K hK => ?_) AllReadyH.nil
       go_simp
       go_at_call 153
       obtain ⟨kx, kd⟩ := ho_keep HXX.out HDD.out HI33.out
       refine (sep_lqF (BxF.obj p) HSd.out (fun G hG hs => UB3.out _ G _ hG (kx.imp (fun W h => h.1.2.2.2.2)) (fun k hk hg => kd k hk (hs k hg)))).mono ?_; rintro e w5 ⟨t, P3, G5, ⟨u3, x3, rfl, hp⟩, h5, st5⟩
       obtain ⟨rfl, rfl⟩ := Prod.mk.inj hp
       have HS34 := Lib.hid h5
       have HI34 := Lib.hid (HI33.out.trans st5)
       obtain ⟨au3, lu3, cu3, rfl⟩ := (bx_has h5).2.1.slf
       have hx5 := (bx_has h5).2.2
       clear h5 st5 kx kd hp UB3 HSd HS31 HS32 HI31 HI32 HI33
       refine hK.out _ _ ((HB.out _ _ HI34.out).cell rfl) (fun hHeld => ?_)
       clear hK K
       try simp only [pA, pB, pC, pD]
       refine tkH 8 (oi := { dst := some 73, op := Op.move (Operand.tmp 81), type := 154, pos := "syntax.go:189", after := #[gD 7], guard := none }) (v := ?_) rfl ?_ ?_
       case refine_2 => (intro w hSw; (try dsimp only at hSw); go_simp; (try with_reducible rfl))
       try simp only [pA, pB, pC, pD]
       refine tkH 9 (oi := { dst := some 82, op := Op.extract (Operand.tmp 73) 0, type := 22, pos := "syntax.go:189", after := #[gD 8], guard := none }) (v := ?_) rfl ?_ ?_
       case refine_2 => (intro w hSw; (try dsimp only at hSw); go_simp; (try with_reducible rfl))
       try simp only [pA, pB, pC, pD]
       refine tkH 10 (oi := { dst := some 83, op := Op.extract (Operand.tmp 73) 1, type := 37, pos := "syntax.go:189", after := #[gD 8, gO 14], guard := none }) (v := ?_) rfl ?_ ?_
       case refine_2 => (intro w hSw; (try dsimp only at hSw); go_simp; (try with_reducible rfl))
       try simp only [pA, pB, pC, pD]
       refine tkH 13 (oi := { dst := some 86, op := Op.indexAddr 28 (Operand.tmp 85) (Operand.tmp 75), type := 0, pos := "syntax.go:189", after := #[gD 12, gD 1, gP 0, gP 1, gP 2, gP 3, gP 4, gP 5, gP 6, gP 7, gP 8, gP 9, gT 10], guard := none }) (v := ?_) rfl ?_ ?_
       case refine_2 => (intro w hSw; (try dsimp only at hSw); go_simp; (try with_reducible rfl))
       try simp only [pA, pB, pC, pD]
       obtain ⟨⟨g0, g1, g2, g3, g4, g5, g6, g7, g8, g9, g10, g11, g12⟩, -⟩ := sq_cells (HB.out _ _ HI34.out)
       obtain ⟨⟨c0', c1', c2', c3', c4', c5', c6', c7', c8', c9', c10', c11', c12'⟩, f0, f1, f2, f3, f4, f5, f6, f7, f8, f9, f10, f11, f12⟩ := sq_cells (bx_box HS34.out)
       have hs := bx_set (RdF.obj a bs) HS34.out 12 (.slice au3 lu3 cu3)
       have HS35 : Hid (Sep (Sep (RdF a bs) (BxF p)) HoF (w5.setCell ⟨p, 12, none⟩ (.slice au3 lu3 cu3)) _ ((_, #[.int .i64 3, .int .i64 0, .int .i64 (m0 : Int), .int .i64 (m1 : Int), .int .i64 (m2 : Int), .int .i64 (m3 : Int), .int .i64 0, .int .i64 0, .slice none 0 0, .slice au0 lu0 cu0, .slice au1 lu1 cu1, .slice au2 lu2 cu2, .slice au3 lu3 cu3]), _)) := hs.1
       have HI35 := Lib.hid (HI34.out.trans hs.2)
       clear hs
       refine wpAnyH_ready (rs := [14]) (by kernel_rfl) (by simp) ?_
       refine AllReadyH.cons (o := { dst := none, op := Op.store 22 (Operand.tmp 86) (Operand.tmp 82), type := 0, pos := "syntax.go:189", after := #[gD 13, gD 9, gC 7, gP 0, gP 1, gP 2, gP 3, gP 4, gP 5, gP 6, gP 7, gP 8, gP 9, gT 10], guard := none }) rfl (fun K hK => ?_) AllReadyH.nil
       go_simp
       refine hK.out _ _ ((HB.out _ _ HI35.out).cell rfl) (fun hHeld => ?_)
       clear hK K
       try simp only [pA, pB, pC, pD]
       refine tkH 15 (oi := { dst := some 7, op := Op.assign (Operand.tmp 83), type := 37, pos := "syntax.go:189", after := #[gD 10, gC 14, gP 0, gP 1, gP 2, gP 3, gP 4, gP 5, gP 6, gP 7, gP 8, gP 9, gP 10, gP 11, gP 12, gP 13, gP 14], guard := none }) (v := ?_) rfl ?_ ?_
       case refine_2 => (intro w hSw; (try dsimp only at hSw); go_simp; (try with_reducible rfl))
       try simp only [pA, pB, pC, pD]
       refine wpAnyH_done (by kernel_rfl) ?_ _
       clear g0 g1 g2 g3 g4 g5 g6 g7 g8 g9 g10 g11 g12 c0' c1' c2' c3' c4' c5' c6' c7' c8' c9' c10' c11' c12' f0 f1 f2 f3 f4 f5 f6 f7 f8 f9 f10 f11 f12
       generalize w5.setCell _ _ = w6 at HS35 HI35 ⊢
       have HZ : Hid (Step F w _ _) := HG0.out.trans HI35.out
       cases f3 with
       | some f =>
         obtain ⟨xt, xv, rfl⟩ := ErrIs.ne hx5
         clear hx5
         go_wp2
         go_ret
         exact ⟨_, _, CpR.bad ((((HR.out.2 (by first | rfl | trivial)).2 (by first | rfl | trivial)).2 (by first | rfl | trivial)).1 _ rfl) rfl (fun W h => h.2.2), HS35.out, HZ.out⟩
       | none =>
         obtain rfl : x3 = .nilIface := hx5
         clear HZ
         go_wp2_with fail
         obtain ⟨wz3, hwz⟩ : ∃ z, z = w6 := ⟨_, rfl⟩
         subst hwz
         have HZ : Hid (Step F w _ _) := HG0.out.trans HI35.out
         rw [rounds_succ]
         go_wp2
         go_ret
         exact ⟨_, _, CpR.ok ((((HR.out.2 (by first | rfl | trivial)).2 (by first | rfl | trivial)).2 (by first | rfl | trivial)).2 (by first | rfl | trivial)) (L := nilS) (s0 := .slice au0 lu0 cu0) (s1 := .slice au1 lu1 cu1) (s2 := .slice au2 lu2 cu2) (s3 := .slice au3 lu3 cu3) rfl (fun W h => ⟨Ints.nil W, h.1.1.1.2.1, h.1.1.2.1, h.1.2.1, h.2.1⟩), HS35.out, HZ.out⟩
end Go.Proofs.YtcekpngkfldgkaaGreatDoor