/- Contracts of this seat: RsL, DeF, DeG. -/
import Derived.Test.YtcekpngkfldgkaaGreatDoorXTk
import Derived.Test.YtcekpngkfldgkaaGreatDoorXSz8
import Derived.Test.YtcekpngkfldgkaaGreatDoorXZr
import Derived.Test.YtcekpngkfldgkaaGreatDoorXDeD
namespace Go.Proofs.YtcekpngkfldgkaaGreatDoor
set_option linter.unusedVariables false
set_option linter.unusedSimpArgs false
open Go.RowKit Go.Extern.Stop Go.Stop Go.Extern
section
variable {σ τ : Type} {A : World → (Nat → Prop) → σ → Prop} {B : World → (Nat → Prop) → τ → Prop} {w0 w : World} {P : World → Prop}
def KqP {σ : Type} (B : World → (Nat → Prop) → σ → Prop) (P : World → Prop) (w0 : World) (s : σ) (f : Fall) (q : Sq) (e : Ending) (w' : World) : Prop := ∃ L s0 s1 s2 s3 x, e = .returned (.tuple #[sqQ q L s0 s1 s2 s3, x]) ∧ Uno (Sep B HoF) w0 w' (s, fun W => P W ∧ SqIs W q L s0 s1 s2 s3 ∧ ErrIs W f x)
theorem rsq_l (ob : Obj B) {a N : Nat} {bs : List Nat} (hb : ∀ x ∈ bs, x < 256) {key : Bool} {q q' : Sq} {f : Fall} {vL v0 v1 v2 v3 : Value} {s s' : Ms Dc} {t : τ} (h : Uno (Sep (Sep (RdF a bs) B) HoF) w0 w ((s, t), P)) (hk : okS okDm N s) (hN : N ≤ 3840000) (hr : sqD key bs q.k s = ((f, q'), s')) (hL : SlF vL) (h0 : SlF v0) (h1 : SlF v1) (h2 : SlF v2) (h3 : SlF v3) :
 Calls Tryz.prog 76 #[.iface 122 (.pointer (some ⟨a, 0, none⟩)), .bool key, sqQ q vL v0 v1 v2 v3] w (KqP (Sep (RdF a bs) B) P w0 (s', t) f q') := by
 refine (bag_ql ob h (fun G X hG hX hd hb' => mrsq_any a N bs hb key q vL v0 v1 v2 v3 s G w hG hk hN hL h0 h1 h2 h3)).mono ?_
 rintro e w' ⟨s2, P', ⟨L, s0, s1, s2', s3, x, rfl, hp⟩, hu⟩
 rw [hr] at hp ⊢
 obtain ⟨rfl, rfl⟩ := Prod.mk.inj hp
 exact ⟨L, s0, s1, s2', s3, x, rfl, hu⟩
end
def decS : ByteArray := ⟨#[100, 101, 99, 111, 100, 101]⟩
def colQ (W : Int) (k : Nat) : Int := ((k % (W.toNat / 8) * 8 : Nat) : Int)
def rowQ (W : Int) (k : Nat) : Int := ((k / (W.toNat / 8) * 8 : Nat) : Int)
section
variable {σ τ : Type}
def sqRun (M : Mc σ) (key : Bool) (W H : Int) (ps : List Int) (qp : Int) : Nat → Nat → List Int → Ms σ → Fall × List Int
 | 0, _, zs, _ => (none, zs)
 | n + 1, k, zs, s => match ((sqP key 0 (blS 0)).run M s).1.1 with
   | some e => (some ((decS, (k : Int)) :: e.1, e.2), [])
   | none => sqRun M key W H ps qp n (k + 1) (bld W H zs ps (colQ W k) (rowQ W k) qp ((sqP key 0 (blS 0)).run M s).1.2) ((sqP key 0 (blS 0)).run M s).2
theorem sqRun_ok {M : Mc σ} {key : Bool} {W H : Int} {ps zs : List Int} {qp : Int} {n k : Nat} {s s' : Ms σ} {q : Sq} (h : (sqP key 0 (blS 0)).run M s = ((none, q), s')) : sqRun M key W H ps qp (n + 1) k zs s = sqRun M key W H ps qp n (k + 1) (bld W H zs ps (colQ W k) (rowQ W k) qp q) s' := by
 rw [sqRun, h]
theorem sqRun_bad {M : Mc σ} {key : Bool} {W H : Int} {ps zs : List Int} {qp : Int} {n k : Nat} {s s' : Ms σ} {q : Sq} {e : List (ByteArray × Int) × Int} (h : (sqP key 0 (blS 0)).run M s = ((some e, q), s')) : sqRun M key W H ps qp (n + 1) k zs s = (some ((decS, (k : Int)) :: e.1, e.2), []) := by
 rw [sqRun, h]
variable {A : World → (Nat → Prop) → σ → Prop} {B : World → (Nat → Prop) → τ → Prop} {w0 w : World} {P : World → Prop}
theorem bag_fr (oa : Obj A) {f : FuncId} {args : Array Value} {v : Value} {s : σ} {t t' : τ} (h : Uno (Sep (Sep A B) HoF) w0 w ((s, t), P)) (c : ∀ G X, B w G t → HoF w X P → (∀ i, X i → ¬ G i) → Calls Tryz.prog f args w (FPost B G w v t')) :
 Calls Tryz.prog f args w fun e w' => e = .returned v ∧ Uno (Sep (Sep A B) HoF) w0 w' ((s, t'), P) := by
 refine (bag_qr (B' := B) (R := fun e z => e = .returned v ∧ z = (t', fun _ => True)) oa h (fun G X hG hX hd _ => (c G X hG hX hd).mono ?_)).mono ?_
 · rintro e w' ⟨rfl, F', h', st⟩
   exact ⟨(t', fun _ => True), F', ⟨rfl, rfl⟩, Sep.pure h' (fun _ => trivial), st⟩
 · rintro e w' ⟨t2, P', ⟨rfl, hp⟩, hu⟩
   obtain ⟨rfl, rfl⟩ := Prod.mk.inj hp
   exact ⟨rfl, bag_imp hu (fun W h => h.1)⟩
theorem bag_f (oa : Obj A) {f : FuncId} {args : Array Value} {v : Value} {s s' : σ} (h : Uno (Sep A HoF) w0 w (s, P)) (c : ∀ G X, A w G s → HoF w X P → (∀ i, X i → ¬ G i) → Calls Tryz.prog f args w (FPost A G w v s')) :
 Calls Tryz.prog f args w fun e w' => e = .returned v ∧ Uno (Sep A HoF) w0 w' (s', P) := by
 obtain ⟨F, ⟨F1, F2, g1, g2, d1, hF⟩, h2, h3⟩ := h
 refine (c F1 F2 g1 g2 d1).mono ?_
 rintro e w' ⟨rfl, F', h', st⟩
 obtain ⟨a1, a2, a3⟩ := st.apart (HoF.obj.lt g2) d1
 have st2 : Step F w (fun i => F' i ∨ F2 i) w' := ⟨⟨st.1.1, st.1.2.1, fun k hk hn => st.1.2.2 k hk (fun hf => hn ((hF k).2 (.inl hf)))⟩, fun k hk => hk.elim (fun h => (st.2 k h).imp (fun h => (hF k).2 (.inl h)) id) (fun h => .inl ((hF k).2 (.inr h)))⟩
 obtain ⟨k1, k2⟩ := st2.out h2 h3
 exact ⟨rfl, fun i => F' i ∨ F2 i, ⟨F', F2, h', HoF.obj.same g2 a1, a2, fun _ => Iff.rfl⟩, k1, k2⟩
theorem bag_dropl (oa : Obj A) {s : σ} {t : τ} (h : Uno (Sep (Sep A B) HoF) w0 w ((s, t), P)) : Uno (Sep B HoF) w0 w (t, P) := (Uno.assoc (bag_swap h)).fst
end
theorem col_at {Q j i : Nat} (hi : i < Q) : colQ ((8 * Q : Nat) : Int) (j * Q + i) = ((8 * i : Nat) : Int) ∧ rowQ ((8 * Q : Nat) : Int) (j * Q + i) = ((8 * j : Nat) : Int) := by
 have e : (((8 * Q : Nat) : Int).toNat) / 8 = Q := by rw [Int.toNat_natCast]; omega
 obtain ⟨e1, e2⟩ := pos_div (R := j) hi
 unfold colQ rowQ
 rw [e, e1, e2]
 exact ⟨by congr 1; omega, by congr 1; omega⟩
theorem lies_sq {Q R j i : Nat} (hi : i < Q) (hj : j < R) : lies ((8 * Q : Nat) : Int) ((8 * R : Nat) : Int) ((8 * i : Nat) : Int) ((8 * j : Nat) : Int) 8 := by
 unfold lies
 omega
theorem ok_step {bs : List Nat} (hb : ∀ x ∈ bs, x < 256) {key : Bool} {N : Nat} {s s' : Ms Dc} {r : Fall × Sq} (h : okS okDm N s) (e : (sqP key 0 (blS 0)).run (mD bs) s = (r, s')) : okS okDm (N + 22164) s' := by
 have := Pg.ok (mkD hb) (sq_dep key 0 (blS 0)) h
 rw [e, sz_full (FullS.bl 0)] at this
 exact this
def RsP (w0 : World) (sl : Value) (P : World → Prop) (r : Fall × List Int) (e : Ending) (w' : World) : Prop := ∃ x ys, e = .returned x ∧ Uno (Sep TlF HoF) w0 w' ((sl, ys), fun W => P W ∧ ErrIs W r.1 x) ∧ (r.1 = none → ys = r.2)
theorem RsP.done {w0 w' : World} {sl x : Value} {P : World → Prop} {r : Fall × List Int} {ys : List Int} {f : Fall} (h : Uno (Sep TlF HoF) w0 w' ((sl, ys), fun W => P W ∧ ErrIs W f x)) (h1 : f = r.1) (h2 : f = none → ys = r.2) : RsP w0 sl P r (.returned x) w' := ⟨x, ys, rfl, by subst h1; exact h, fun e => h2 (h1.trans e)⟩
theorem num_lt {Q R i j : Nat} (hi : i < Q) (hj : j < R) : j * Q + i < Q * R := by
 have h1 : (j + 1) * Q ≤ R * Q := Nat.mul_le_mul_right Q hj
 rw [Nat.succ_mul, Nat.mul_comm R Q] at h1
 omega
theorem bld_arm {a Wn Hn Q R i j : Nat} {bs : List Nat} {W H PW PH qp kd : Int} {zs ps : List Int} {g n cap : Nat} {pa : Option Addr} {pn pc : Nat} {q : Sq} {w0 : World} (hW : Wn = 8 * Q) (hH : Hn = 8 * R) (hi : i < Q) (hj : j < R) (hm : may (Wn : Int) (Hn : Int) zs) (hq : 0 ≤ qp ∧ qp ≤ 15) (ha : askE (decide (kd = 1)) q = none) (hp : kd ≠ 1 → PW = (Wn : Int) ∧ PH = (Hn : Int) ∧ may (Wn : Int) (Hn : Int) ps ∧ Ints w0 (.slice pa pn pc) ps) (xi yj : Nat) (hx : xi = 8 * i) (hy : yj = 8 * j)
 (s : Ms Dc) (P : World → Prop) (w : World) (vL v0 v1 v2 v3 : Value) (h : Uno (Sep (Sep (RdF a bs) TlF) HoF) w0 w ((s, (.slice (some ⟨g, 0, none⟩) n cap, zs)), P)) (hP : ∀ W, P W → SqIs W q vL v0 v1 v2 v3) :
 Calls Tryz.prog 35 #[.agg #[.int .i64 (Wn : Int), .int .i64 (Hn : Int), .slice (some ⟨g, 0, none⟩) n cap], .agg #[.int .i64 PW, .int .i64 PH, .slice pa pn pc], .int .i64 (xi : Int), .int .i64 (yj : Int), .int .i64 qp, sqQ q vL v0 v1 v2 v3] w
  fun e w' => e = .returned .nilIface ∧ Uno (Sep (Sep (RdF a bs) TlF) HoF) w0 w' ((s, (.slice (some ⟨g, 0, none⟩) n cap, bld (Wn : Int) (Hn : Int) zs ps (colQ (Wn : Int) (j * Q + i)) (rowQ (Wn : Int) (j * Q + i)) qp q)), P) := by
 obtain ⟨o1, o2, o3⟩ := ask_out ha
 have o4 : (0 ≤ q.k ∧ q.k ≤ 3) ∧ (q.k < 2 → kd ≠ 1) := by
  simp only [okK, Bool.and_eq_true, Bool.not_eq_true', decide_eq_true_eq, Bool.and_eq_false_iff, decide_eq_false_iff_not] at o1
  exact ⟨o1.1, fun h e => by rcases o1.2 with h1 | h1 <;> omega⟩
 subst hW hH hx hy
 obtain ⟨c1, c2⟩ := col_at (j := j) hi
 rw [c1, c2]
 exact bag_fr (RdF.obj a bs) h (fun G X hG hX hd => dbuild_any _ _ PW PH _ _ qp zs ps g n cap pa pn pc q vL v0 v1 v2 v3 X w G hG hm (lies_sq hi hj) o4.1 o2 o3 hq (hX.imp hP) hd (fun hk => by
  obtain ⟨e1, e2, e3, e4⟩ := hp (o4.2 hk)
  exact ⟨e1, e2, e3, e4.ext h.out⟩))
theorem bld_may_at {Wn Hn Q R i j : Nat} {qp kd : Int} {zs ps : List Int} {q : Sq} (hW : Wn = 8 * Q) (hH : Hn = 8 * R) (hi : i < Q) (hj : j < R) (hm : may (Wn : Int) (Hn : Int) zs) (ha : askE (decide (kd = 1)) q = none) (hp : kd ≠ 1 → may (Wn : Int) (Hn : Int) ps) : may (Wn : Int) (Hn : Int) (bld (Wn : Int) (Hn : Int) zs ps (colQ (Wn : Int) (j * Q + i)) (rowQ (Wn : Int) (j * Q + i)) qp q) := by
 obtain ⟨o1, o2, o3⟩ := ask_out ha
 have o4 : q.k < 2 → kd ≠ 1 := by
  simp only [okK, Bool.and_eq_true, Bool.not_eq_true', decide_eq_true_eq, Bool.and_eq_false_iff, decide_eq_false_iff_not] at o1
  exact fun h e => by rcases o1.2 with h1 | h1 <;> omega
 subst hW hH
 obtain ⟨c1, c2⟩ := col_at (j := j) hi
 rw [c1, c2]
 exact bld_may hm (lies_sq hi hj) (fun h => hp (o4 h))
set_option maxHeartbeats 16000000 in
set_option maxRecDepth 20000 in
theorem rdsq_any (Wn Hn Q R : Nat) (PW PH kd qp : Int) (zs ps : List Int) (bs : List Nat) (g n cap : Nat) (pa : Option Addr) (pn pc : Nat) (ha : Option Addr) (hn hc : Nat) (w0 w : World) (P : World → Prop) (hW : Wn = 8 * Q) (hH : Hn = 8 * R)
 (h : Uno (Sep TlF HoF) w0 w ((.slice (some ⟨g, 0, none⟩) n cap, zs), P)) (hm : may (Wn : Int) (Hn : Int) zs) (hb : Bys w (.slice ha hn hc) bs) (hq : 0 ≤ qp ∧ qp ≤ 15) (hp : kd ≠ 1 → PW = (Wn : Int) ∧ PH = (Hn : Int) ∧ may (Wn : Int) (Hn : Int) ps ∧ Ints w0 (.slice pa pn pc) ps) :
 Calls Tryz.prog 50 #[.agg #[.int .i64 (Wn : Int), .int .i64 (Hn : Int), .slice (some ⟨g, 0, none⟩) n cap], .agg #[.int .i64 PW, .int .i64 PH, .slice pa pn pc], .agg #[.int .i64 kd, .int .i64 qp, .slice ha hn hc]] w
  (RsP w0 (.slice (some ⟨g, 0, none⟩) n cap) P (sqRun (mD bs) (decide (kd = 1)) (Wn : Int) (Hn : Int) ps qp (Q * R) 0 zs ⟨ch0, newD bs⟩)) := by
 have A0 := (BoxIs.new w #[.int .i64 (Wn : Int), .int .i64 (Hn : Int), .slice (some ⟨g, 0, none⟩) n cap] 24).ext (((Ext.refl _).alloc (.cells #[.int .i64 PW, .int .i64 PH, .slice pa pn pc] 24)).alloc (.cells #[.int .i64 kd, .int .i64 qp, .slice ha hn hc] 92))
 have A1 := (BoxIs.new (w.alloc (.cells #[.int .i64 (Wn : Int), .int .i64 (Hn : Int), .slice (some ⟨g, 0, none⟩) n cap] 24)) #[.int .i64 PW, .int .i64 PH, .slice pa pn pc] 24).ext ((Ext.refl _).alloc (.cells #[.int .i64 kd, .int .i64 qp, .slice ha hn hc] 92))
 have A2 := BoxIs.new ((w.alloc (.cells #[.int .i64 (Wn : Int), .int .i64 (Hn : Int), .slice (some ⟨g, 0, none⟩) n cap] 24)).alloc (.cells #[.int .i64 PW, .int .i64 PH, .slice pa pn pc] 24)) #[.int .i64 kd, .int .i64 qp, .slice ha hn hc] 92
 have E0 := (((Ext.refl w).alloc (.cells #[.int .i64 (Wn : Int), .int .i64 (Hn : Int), .slice (some ⟨g, 0, none⟩) n cap] 24)).alloc (.cells #[.int .i64 PW, .int .i64 PH, .slice pa pn pc] 24)).alloc (.cells #[.int .i64 kd, .int .i64 qp, .slice ha hn hc] 92)
 have sz1 : (w.alloc (.cells #[.int .i64 (Wn : Int), .int .i64 (Hn : Int), .slice (some ⟨g, 0, none⟩) n cap] 24)).heap.size = w.heap.size + 1 := by simp
 have sz2 : ((w.alloc (.cells #[.int .i64 (Wn : Int), .int .i64 (Hn : Int), .slice (some ⟨g, 0, none⟩) n cap] 24)).alloc (.cells #[.int .i64 PW, .int .i64 PH, .slice pa pn pc] 24)).heap.size = w.heap.size + 1 + 1 := by simp
 rw [sz1] at A1
 rw [sz2] at A2
 obtain ⟨u, hu⟩ : ∃ z, ((w.alloc (.cells #[.int .i64 (Wn : Int), .int .i64 (Hn : Int), .slice (some ⟨g, 0, none⟩) n cap] 24)).alloc (.cells #[.int .i64 PW, .int .i64 PH, .slice pa pn pc] 24)).alloc (.cells #[.int .i64 kd, .int .i64 qp, .slice ha hn hc] 92) = z := ⟨_, rfl⟩
 rw [hu] at A0 A1 A2 E0
 have HU := Lib.hid hu
 have HE0 := Lib.hid E0
 obtain ⟨P1, hP1⟩ : ∃ P1 : World → Prop, P1 = fun W => P W ∧ (BoxIs W w.heap.size #[.int .i64 (Wn : Int), .int .i64 (Hn : Int), .slice (some ⟨g, 0, none⟩) n cap] 24 ∧ (BoxIs W (w.heap.size + 1) #[.int .i64 PW, .int .i64 PH, .slice pa pn pc] 24 ∧ BoxIs W (w.heap.size + 1 + 1) #[.int .i64 kd, .int .i64 qp, .slice ha hn hc] 92)) := ⟨_, rfl⟩
 have HP1 : Hid (∀ W, P1 W → P W ∧ (BoxIs W w.heap.size #[.int .i64 (Wn : Int), .int .i64 (Hn : Int), .slice (some ⟨g, 0, none⟩) n cap] 24 ∧ (BoxIs W (w.heap.size + 1) #[.int .i64 PW, .int .i64 PH, .slice pa pn pc] 24 ∧ BoxIs W (w.heap.size + 1 + 1) #[.int .i64 kd, .int .i64 qp, .slice ha hn hc] 92))) := by subst hP1; exact fun W h => h
 have hU1 : Uno (Sep TlF HoF) w0 u ((.slice (some ⟨g, 0, none⟩) n cap, zs), P1) := by
  subst hP1
  exact bag_add TlF.obj h E0 ((HoF.box A0).and ((HoF.box A1).and (HoF.box A2))) (by rintro i (rfl | rfl | rfl) <;> omega)
 have HU1 := Lib.hid hU1
 have hbv := hb.2.1
 have HBB := Lib.hid hbv
 have UN := Lib.hid (mrnew_any bs (.slice ha hn hc) u (hb.ext E0))
 obtain ⟨kb, hkb⟩ : ∃ b, decide (kd = 1) = b := ⟨_, rfl⟩
 have b1 := sideB_true hm.1
 have b2 := sideB_true hm.2.1
 have hQ : 1 ≤ Q ∧ Q ≤ 4 := by omega
 have hR : 1 ≤ R ∧ R ≤ 4 := by omega
 have hQR : Q * R ≤ 16 := Nat.mul_le_mul hQ.2 hR.2
 have HQR := Lib.hid hQR
 have UBA := Lib.hid (fun a i j hi hj zs (hm : may (Wn : Int) (Hn : Int) zs) q (ha : askE (decide (kd = 1)) q = none) => bld_arm (a := a) (bs := bs) (Q := Q) (R := R) (i := i) (j := j) (g := g) (n := n) (cap := cap) (q := q) (w0 := w0) (W := 0) (H := 0) hW hH hi hj hm hq ha hp)
 have UM := Lib.hid (fun (a : Nat) i j hi hj zs (hm : may (Wn : Int) (Hn : Int) zs) q (ha : askE (decide (kd = 1)) q = none) => bld_may_at (Q := Q) (R := R) (i := i) (j := j) (q := q) (qp := qp) hW hH hi hj hm ha (fun e => (hp e).2.2.1))
 rw [hkb] at UBA UM ⊢
 obtain ⟨T, hT⟩ : ∃ r, sqRun (mD bs) kb (Wn : Int) (Hn : Int) ps qp (Q * R) 0 zs ⟨ch0, newD bs⟩ = r := ⟨_, rfl⟩
 rw [hT]
 have HT0 : Hid (T = sqRun (mD bs) kb (Wn : Int) (Hn : Int) ps qp (Q * R - 0) 0 zs ⟨ch0, newD bs⟩) := hT.symm
 have HM0 := Lib.hid hm
 have HK0 : Hid (okS okDm (4 + 22164 * 0) ⟨ch0, newD bs⟩) := okd13 hbv
 have HWn := Lib.hid hW
 have HHn := Lib.hid hH
 have HKB := Lib.hid hkb
 clear A0 A1 A2 E0 sz1 sz2 hu hP1 hU1 h hm hb hq hp hQR hT hW hH hbv
 go_enter Tryz.func50, Tryz.ntmps50
 go_wp2_with fail
 rw [HU.out]
 clear HU
 refine UN.out.mono ?_; rintro e w3 ⟨d, G, rfl, hG, hD, hx3⟩
 have hU3 := bag_swap (Uno.assoc (HU1.out.add (TlF.obj.sep HoF.obj) hx3 hD hG))
 have HU3 := Lib.hid hU3
 clear hU3 UN HU1 hG hD hx3
 go_wp2_with fail
 go_loopw [8, 9] (fun nv yv wr => ∃ (j k yj : Nat) (zs' : List Int) (s : Ms Dc), j ≤ R ∧ k = j * Q ∧ Hid (yj = 8 * j) ∧ yv = .int .i64 (yj : Int) ∧ nv = .int .i64 (k : Int) ∧ Hid (okS okDm (4 + 22164 * k) s) ∧ Hid (may (Wn : Int) (Hn : Int) zs') ∧ Hid (T = sqRun (mD bs) kb (Wn : Int) (Hn : Int) ps qp (Q * R - k) k zs' s) ∧ Hid (Uno (Sep (Sep (RdF d bs) TlF) HoF) w0 wr ((s, (.slice (some ⟨g, 0, none⟩) n cap, zs')), P1))) (fun _ yv _ => Hn - (intOf yv).toNat)
 case atStart => exact ⟨0, 0, 0, zs, _, Nat.zero_le _, (Nat.zero_mul _).symm, rfl, rfl, rfl, HK0, HM0, HT0, HU3⟩
 case round =>
  clear HU3 HK0 HM0 HT0
  obtain ⟨j, k, yj, zs', s, hj, hk, HY, rfl, rfl, HK, HM, HT, HU⟩ := hrel
  obtain ⟨B0, B1, B2⟩ := (HP1.out _ HU.out.held).2
  have p0 := B0.cell (i := 0) (v := .int .i64 (Wn : Int)) rfl
  have p1 := B0.cell (i := 1) (v := .int .i64 (Hn : Int)) rfl
  clear B0 B1 B2
  by_cases hjR : j < R
  · have ty : (yj : Int) < (Hn : Int) := by have := HY.out; have := HHn.out; omega
    have ty2 : decide ((yj : Int) < (Hn : Int)) = true := decide_eq_true ty
    have HJR := Lib.hid hjR
    have hk0 : Hid (k = j * Q + 0) := hk
    clear hjR hk
    go_wp2_with fail
    go_loopw [8, 10] (fun nv xv wr => ∃ (i k xi : Nat) (zs' : List Int) (s : Ms Dc), i ≤ Q ∧ k = j * Q + i ∧ Hid (xi = 8 * i) ∧ xv = .int .i64 (xi : Int) ∧ nv = .int .i64 (k : Int) ∧ Hid (okS okDm (4 + 22164 * k) s) ∧ Hid (may (Wn : Int) (Hn : Int) zs') ∧ Hid (T = sqRun (mD bs) kb (Wn : Int) (Hn : Int) ps qp (Q * R - k) k zs' s) ∧ Hid (Uno (Sep (Sep (RdF d bs) TlF) HoF) w0 wr ((s, (.slice (some ⟨g, 0, none⟩) n cap, zs')), P1))) (fun _ xv _ => Wn - (intOf xv).toNat)
    case atStart => exact ⟨0, k, 0, zs', s, Nat.zero_le _, hk0.out, rfl, rfl, rfl, HK, HM, HT, HU⟩
    case round =>
     clear HK HM HT HU p0 p1 hk0
     obtain ⟨i, k, xi, zs', s, hi, hk, HX, rfl, rfl, HK, HM, HT, HU⟩ := hrel
     obtain ⟨B0, B1, B2⟩ := (HP1.out _ HU.out.held).2
     have p0 := B0.cell (i := 0) (v := .int .i64 (Wn : Int)) rfl
     have p2 := B2.cell (i := 0) (v := .int .i64 kd) rfl
     clear B0 B1 B2
     by_cases hiQ : i < Q
     · have tx : (xi : Int) < (Wn : Int) := by have := HX.out; have := HWn.out; omega
       have tx2 : decide ((xi : Int) < (Wn : Int)) = true := decide_eq_true tx
       have hkl : k < Q * R := by rw [hk]; exact num_lt hiQ HJR.out
       have hk16 : k < 16 := by have := HQR.out; omega
       have dx : IntKind.i64.wrap ((xi : Int) + 8) = (xi : Int) + 8 := by rw [IntKind.wrap_i64]; have := HX.out; omega
       have dk : IntKind.i64.wrap ((k : Int) + 1) = (k : Int) + 1 := by rw [IntKind.wrap_i64]; omega
       have hkb : (kd == 1) = kb := HKB.out
       obtain ⟨⟨⟨f, q⟩, s2⟩, hs⟩ : ∃ r, sqD kb bs 0 s = r := ⟨_, rfl⟩
       have hs' : (sqP kb 0 (blS 0)).run (mD bs) s = ((f, q), s2) := hs
       have hgot : GotS kb (f, q) := by have h := sq_got (M := mD bs) kb 0 (FullS.bl 0) s; rw [hs'] at h; exact h
       have HK2 : Hid (okS okDm (4 + 22164 * (k + 1)) s2) := by
        have := ok_step HBB.out HK.out hs'
        rw [show 4 + 22164 * k + 22164 = 4 + 22164 * (k + 1) by omega] at this
        exact this
       have UR := Lib.hid (rsq_l (q := ⟨0, 0, 0, 0, 0, 0, 0, 0, [], [], [], [], []⟩) (vL := nilS) (v0 := nilS) (v1 := nilS) (v2 := nilS) (v3 := nilS) TlF.obj HBB.out HU.out HK.out (by omega) hs ⟨_, _, _, rfl⟩ ⟨_, _, _, rfl⟩ ⟨_, _, _, rfl⟩ ⟨_, _, _, rfl⟩ ⟨_, _, _, rfl⟩)
       have hts : Q * R - k = (Q * R - (k + 1)) + 1 := by omega
       cases f with
       | none =>
         have hask : askE kb q = none := by
          rcases hgot with ⟨_, _, e⟩ | ⟨q', e, h1, _⟩
          · cases (Prod.mk.inj e).1
          · obtain ⟨-, rfl⟩ := Prod.mk.inj e
            exact h1
         have HTN : Hid (T = sqRun (mD bs) kb (Wn : Int) (Hn : Int) ps qp (Q * R - (k + 1)) (k + 1) (bld (Wn : Int) (Hn : Int) zs' ps (colQ (Wn : Int) (j * Q + i)) (rowQ (Wn : Int) (j * Q + i)) qp q) s2) := by
          show _ = _
          rw [HT.out, hts, sqRun_ok hs', hk]
         have UB := Lib.hid (UBA.out d i j hiQ HJR.out zs' HM.out q hask xi yj HX.out HY.out s2)
         have HMN : Hid (may (Wn : Int) (Hn : Int) (bld (Wn : Int) (Hn : Int) zs' ps (colQ (Wn : Int) (j * Q + i)) (rowQ (Wn : Int) (j * Q + i)) qp q)) := UM.out d i j hiQ HJR.out zs' HM.out q hask
         obtain ⟨zn, hzn⟩ : ∃ z, bld (Wn : Int) (Hn : Int) zs' ps (colQ (Wn : Int) (j * Q + i)) (rowQ (Wn : Int) (j * Q + i)) qp q = z := ⟨_, rfl⟩
         rw [hzn] at HTN UB HMN
         have hk1 : Hid (k + 1 = j * Q + (i + 1)) := by show _ = _; omega
         clear hs hs' hgot hask hts hkl HK HM HT hzn hk UBA UM
         go_wp2_with fail
         refine (UR.out).mono ?_; rintro e w5 ⟨L5, q0, q1, q2, q3, x5, rfl, h5⟩
         have H5 := Lib.hid h5
         obtain ⟨aL, lL, cL, rfl⟩ := h5.held.2.1.1.slf
         obtain ⟨a0, l0, c0, rfl⟩ := h5.held.2.1.2.1.slf
         obtain ⟨a1, l1, c1, rfl⟩ := h5.held.2.1.2.2.1.slf
         obtain ⟨a2, l2, c2, rfl⟩ := h5.held.2.1.2.2.2.1.slf
         obtain ⟨a3, l3, c3, rfl⟩ := h5.held.2.1.2.2.2.2.slf
         obtain rfl : x5 = .nilIface := h5.held.2.2
         have UB2 := Lib.hid (fun P' w' h hP => UB.out P' w' (.slice aL lL cL) (.slice a0 l0 c0) (.slice a1 l1 c1) (.slice a2 l2 c2) (.slice a3 l3 c3) h hP)
         obtain ⟨B0, B1, B2⟩ := (HP1.out _ h5.held.1).2
         clear UR UB h5 HU p0 p2
         have HQI : Hid (∀ W, (P1 W ∧ SqIs W q (.slice aL lL cL) (.slice a0 l0 c0) (.slice a1 l1 c1) (.slice a2 l2 c2) (.slice a3 l3 c3) ∧ ErrIs W none .nilIface) → SqIs W q (.slice aL lL cL) (.slice a0 l0 c0) (.slice a1 l1 c1) (.slice a2 l2 c2) (.slice a3 l3 c3)) := fun W h => h.2.1
         obtain ⟨P5, hP5⟩ : ∃ z : World → Prop, z = fun W => P1 W ∧ SqIs W q (.slice aL lL cL) (.slice a0 l0 c0) (.slice a1 l1 c1) (.slice a2 l2 c2) (.slice a3 l3 c3) ∧ ErrIs W none .nilIface := ⟨_, rfl⟩
         rw [← hP5] at H5
         have HQ5 : Hid (∀ W, P5 W → P1 W ∧ SqIs W q (.slice aL lL cL) (.slice a0 l0 c0) (.slice a1 l1 c1) (.slice a2 l2 c2) (.slice a3 l3 c3)) := by subst hP5; exact fun W h => ⟨h.1, h.2.1⟩
         have UB3 := Lib.hid (fun w' h => UB2.out P5 w' h (fun W h => (HQ5.out W h).2))
         clear UB2 HQI hP5
         unfold sqQ sqV at UB3
         unfold sqQ sqV
         obtain ⟨rk, hrk⟩ : ∃ z, q.k = z := ⟨_, rfl⟩
         obtain ⟨rm, hrm⟩ : ∃ z, q.m = z := ⟨_, rfl⟩
         obtain ⟨ra, hra⟩ : ∃ z, q.a = z := ⟨_, rfl⟩
         obtain ⟨rb, hrb⟩ : ∃ z, q.b = z := ⟨_, rfl⟩
         obtain ⟨rc, hrc⟩ : ∃ z, q.c = z := ⟨_, rfl⟩
         obtain ⟨rd, hrd⟩ : ∃ z, q.d = z := ⟨_, rfl⟩
         obtain ⟨rx, hrx⟩ : ∃ z, q.x = z := ⟨_, rfl⟩
         obtain ⟨ry, hry⟩ : ∃ z, q.y = z := ⟨_, rfl⟩
         rw [hrk, hrm, hra, hrb, hrc, hrd, hrx, hry] at UB3 ⊢
         have HQ6 : Hid (∀ W, P5 W → P1 W) := fun W h => (HQ5.out W h).1
         clear hrk hrm hra hrb hrc hrd hrx hry HQ5
         have X6 := (Ext.refl w5).alloc (.cells #[.int .i64 rk, .int .i64 rm, .int .i64 ra, .int .i64 rb, .int .i64 rc, .int .i64 rd, .int .i64 rx, .int .i64 ry, .slice aL lL cL, .slice a0 l0 c0, .slice a1 l1 c1, .slice a2 l2 c2, .slice a3 l3 c3] 30)
         obtain ⟨c00, c01, c02⟩ : _ ∧ _ ∧ _ := ⟨(B0.ext X6).cell (i := 0) (v := .int .i64 (Wn : Int)) rfl, (B0.ext X6).cell (i := 1) (v := .int .i64 (Hn : Int)) rfl, (B0.ext X6).cell (i := 2) (v := .slice (some ⟨g, 0, none⟩) n cap) rfl⟩
         obtain ⟨c10, c11, c12⟩ : _ ∧ _ ∧ _ := ⟨(B1.ext X6).cell (i := 0) (v := .int .i64 PW) rfl, (B1.ext X6).cell (i := 1) (v := .int .i64 PH) rfl, (B1.ext X6).cell (i := 2) (v := .slice pa pn pc) rfl⟩
         have c21 := (B2.ext X6).cell (i := 1) (v := .int .i64 qp) rfl
         have H6 := Lib.hid (bag_ext ((RdF.obj d bs).sep TlF.obj) H5.out X6)
         clear X6 B0 B1 B2 H5
         go_wp2_with fail
         refine (UB3.out _ H6.out).mono ?_; rintro e w7 ⟨rfl, h7⟩
         have H7 := Lib.hid (bag_imp h7 HQ6.out)
         clear h7 H6 UB3 HQ6 c00 c01 c02 c10 c11 c12 c21
         go_wp2
         go_roundw
         case rel => first | exact ⟨i + 1, k + 1, xi + 8, zn, s2, by omega, hk1.out, by show _ = _; have := HX.out; omega, by go_num, by go_num, HK2, HMN, HTN, H7⟩ | ((repeat apply Exists.intro); exact ⟨⟨i + 1, k + 1, xi + 8, zn, s2, by omega, hk1.out, by show _ = _; have := HX.out; omega, by go_num, by go_num, HK2, HMN, HTN, H7⟩, rfl⟩)
         case measure => simp [intOf]; omega
       | some f =>
         have HTB : Hid (T = (some ((decS, (k : Int)) :: f.1, f.2), [])) := by
          show _ = _
          rw [HT.out, hts, sqRun_bad hs']
         have HFL : Hid (f.1.length = 2) := by
          show _ = _
          rcases hgot with ⟨_, _, e⟩ | ⟨q', e, h1, _⟩
          · have e2 := (Prod.mk.inj e).1
            rw [Option.some.injEq] at e2
            rw [e2]
            rfl
          · cases (Prod.mk.inj e).1
         clear hs hs' hgot hts hkl HK HK2 HT hk UBA UM dx dk
         go_wp2_with fail
         refine (UR.out).mono ?_; rintro e w5 ⟨L5, q0, q1, q2, q3, x5, rfl, h5⟩
         obtain ⟨xt, xv, rfl⟩ := ErrIs.ne h5.held.2.2
         have H5 := Lib.hid h5
         obtain ⟨aL, lL, cL, rfl⟩ := h5.held.2.1.1.slf
         obtain ⟨a0, l0, c0, rfl⟩ := h5.held.2.1.2.1.slf
         obtain ⟨a1, l1, c1, rfl⟩ := h5.held.2.1.2.2.1.slf
         obtain ⟨a2, l2, c2, rfl⟩ := h5.held.2.1.2.2.2.1.slf
         obtain ⟨a3, l3, c3, rfl⟩ := h5.held.2.1.2.2.2.2.slf
         clear UR h5 HU p0 p2
         obtain ⟨P5, hP5⟩ : ∃ z : World → Prop, z = fun W => P1 W ∧ SqIs W q (.slice aL lL cL) (.slice a0 l0 c0) (.slice a1 l1 c1) (.slice a2 l2 c2) (.slice a3 l3 c3) ∧ ErrIs W (some f) (.iface xt xv) := ⟨_, rfl⟩
         rw [← hP5] at H5
         have HQ5 : Hid (∀ W, P5 W → P W ∧ IsErr W f.1 f.2 (.iface xt xv) ∧ f.2 ≠ 0) := by subst hP5; exact fun W h => ⟨(HP1.out W h.1).1, h.2.2.1, h.2.2.2.1⟩
         clear hP5
         unfold sqQ sqV
         obtain ⟨rk, hrk⟩ : ∃ z, q.k = z := ⟨_, rfl⟩
         obtain ⟨rm, hrm⟩ : ∃ z, q.m = z := ⟨_, rfl⟩
         obtain ⟨ra, hra⟩ : ∃ z, q.a = z := ⟨_, rfl⟩
         obtain ⟨rb, hrb⟩ : ∃ z, q.b = z := ⟨_, rfl⟩
         obtain ⟨rc, hrc⟩ : ∃ z, q.c = z := ⟨_, rfl⟩
         obtain ⟨rd, hrd⟩ : ∃ z, q.d = z := ⟨_, rfl⟩
         obtain ⟨rx, hrx⟩ : ∃ z, q.x = z := ⟨_, rfl⟩
         obtain ⟨ry, hry⟩ : ∃ z, q.y = z := ⟨_, rfl⟩
         rw [hrk, hrm, hra, hrb, hrc, hrd, hrx, hry]
         clear hrk hrm hra hrb hrc hrd hrx hry
         have X6 := (Ext.refl w5).alloc (.cells #[.int .i64 rk, .int .i64 rm, .int .i64 ra, .int .i64 rb, .int .i64 rc, .int .i64 rd, .int .i64 rx, .int .i64 ry, .slice aL lL cL, .slice a0 l0 c0, .slice a1 l1 c1, .slice a2 l2 c2, .slice a3 l3 c3] 30)
         have H6 := Lib.hid (bag_ext ((RdF.obj d bs).sep TlF.obj) H5.out X6)
         clear X6 H5
         go_wp2_with fail
         refine (in_hold decS (k : Int) xt xv _).mono ?_; rintro e w7 ⟨x7, b7, rfl, hx7, hb7, ho7⟩
         have H7 := Lib.hid (bag_dropl (RdF.obj d bs) (bag_add ((RdF.obj d bs).sep TlF.obj) H6.out hx7 ho7 (by rintro i rfl; exact hb7)))
         clear H6 hx7 hb7 ho7
         have H8 : Hid (Uno (Sep TlF HoF) w0 w7 ((.slice (some ⟨g, 0, none⟩) n cap, zs'), fun W => P W ∧ ErrIs W (some ((decS, (k : Int)) :: f.1, f.2)) x7)) := bag_imp H7.out (fun W h => ⟨(HQ5.out W h.1).1, h.2 _ _ (HQ5.out W h.1).2.1, (HQ5.out W h.1).2.2, by show f.1.length + 1 ≤ 1000000; rw [HFL.out]; decide⟩)
         clear H7 HQ5
         go_wp2
         go_ret
         exact RsP.done H8.out (by rw [HTB.out]) (fun e => by cases e)
     · obtain rfl : i = Q := by omega
       have tx : ¬ (xi : Int) < (Wn : Int) := by have := HX.out; have := HWn.out; omega
       have tx2 : decide ((xi : Int) < (Wn : Int)) = false := decide_eq_false tx
       have dy : IntKind.i64.wrap ((yj : Int) + 8) = (yj : Int) + 8 := by rw [IntKind.wrap_i64]; have := HY.out; have := HJR.out; omega
       have hk1 : Hid (k = (j + 1) * i) := by show _ = _; rw [Nat.succ_mul]; exact hk
       clear hk
       go_wp2
       go_roundw
       case rel => first | exact ⟨j + 1, k, yj + 8, zs', s, HJR.out, hk1.out, by show _ = _; have := HY.out; omega, by go_num, rfl, HK, HM, HT, HU⟩ | ((repeat apply Exists.intro); exact ⟨⟨j + 1, k, yj + 8, zs', s, HJR.out, hk1.out, by show _ = _; have := HY.out; omega, by go_num, rfl, HK, HM, HT, HU⟩, rfl⟩)
       case measure => simp [intOf]; omega
  · obtain rfl : j = R := by omega
    have ty : ¬ (yj : Int) < (Hn : Int) := by have := HY.out; have := HHn.out; omega
    have ty2 : decide ((yj : Int) < (Hn : Int)) = false := decide_eq_false ty
    have HTE : Hid (T = (none, zs')) := by
     show _ = _
     rw [HT.out, show Q * j - k = 0 by rw [hk, Nat.mul_comm]; exact Nat.sub_self _]
     rfl
    have H8 : Hid (Uno (Sep TlF HoF) w0 wr ((.slice (some ⟨g, 0, none⟩) n cap, zs'), fun W => P W ∧ ErrIs W none .nilIface)) := bag_imp (bag_dropl (RdF.obj d bs) HU.out) (fun W h => ⟨(HP1.out W h).1, rfl⟩)
    clear hk HT HU HK HM UBA UM
    go_wp2
    go_ret
    exact RsP.done H8.out (by rw [HTE.out]) (fun _ => by rw [HTE.out])
end Go.Proofs.YtcekpngkfldgkaaGreatDoor