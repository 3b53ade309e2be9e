/- kinref20.Code as a writer. -/
import Derived.Test.YtpofabebmeickaaGreatDoorVwSzb
namespace Go.Proofs.YtpofabebmeickaaGreatDoor
set_option linter.unusedVariables false
set_option linter.unusedSimpArgs false
open Go.RowKit Go.Extern.Stop Go.Stop Go.Extern

theorem bitX (s : Ms Xe) (c : Int) (b : Bool) : (bitM mX s c b).1 = b := by
  unfold bitM
  split <;> rfl
/-- the document's writer tells what it is handed -/
theorem Pg.toldX {α : Type} : ∀ (p : Pg α) (s : Ms Xe), (p.run mX s).1 = p.hand
  | .ret _, _ => rfl
  | .bit c b k, s => by
    show ((k (bitM mX s c b).1).run mX (bitM mX s c b).2).1 = (k b).hand
    rw [bitX]
    exact Pg.toldX (k b) _
  | .fla b k, s => Pg.toldX (k b) _
def sqX (key : Bool) (q : Sq) (s : Ms Xe) : (Fall × Sq) × Ms Xe := match askE key q with
  | none => (sqP key q.k q).run mX s
  | some e => ((some e, sq0), s)
theorem li_L {q : Sq} (h : liE q = none) (hk : q.k = 1 ∨ q.k = 2) : lvE q.L 64 = none := by
  unfold liE at h
  rwa [if_pos hk] at h
theorem li_s {q : Sq} (h : liE q = none) (hk : q.k = 3) : lvE q.s0 16 = none ∧ lvE q.s1 16 = none ∧ lvE q.s2 16 = none ∧ lvE q.s3 16 = none := by
  unfold liE at h
  rw [if_neg (by omega), if_pos hk] at h
  obtain ⟨a, h⟩ := orF_none h
  obtain ⟨b, h⟩ := orF_none h
  obtain ⟨c, d⟩ := orF_none h
  exact ⟨a, b, c, d⟩
set_option maxRecDepth 20000 in
set_option maxHeartbeats 1000000 in
theorem dwckind_any (a N : Nat) (key : Bool) (k : Int) (s : Ms Xe) (F : Nat → Prop) (w : World) (h : (DwF a) w F s) (hk : okS okXm N s) (hN : N ≤ 3999000) : Calls Tryz.prog 43 #[.pointer (some ⟨a, 0, none⟩), .bool key, .int .i64 k] w (FPost (DwF a) F w (.int .i64 ((kyP key k).run mX s).1) ((kyP key k).run mX s).2) := by
  cases key
  · have UB := Lib.hid (dwkind_any a N k s F w h hk hN)
    have HR : Hid ((kyP false k).run mX s = (((kindM mX s k).1 : Int), (kindM mX s k).2)) := kin_run k s
    clear h hk
    go_enter Tryz.func43, Tryz.ntmps43
    go_wp2_with fail
    refine (UB.out).mono ?_; rintro e w1 ⟨rfl, F1, h1, g1⟩
    go_wp2
    go_ret
    exact ⟨by rw [HR.out]; rfl, F1, by rw [HR.out]; exact h1, g1⟩
  · obtain ⟨b, hb'⟩ : ∃ b, decide (k = 3) = b := ⟨_, rfl⟩
    have d0 : (k == 3) = b := by rw [← hb']; rfl
    obtain ⟨⟨V, s1⟩, e⟩ : ∃ r, flaM mX s b = r := ⟨_, rfl⟩
    have UF := Lib.hid (dwflat_any a N b s F w h hk (by omega))
    rw [e] at UF
    have HR : Hid ((kyP true k).run mX s = (if V then 3 else 2, s1)) := by
      show ((fun v : Bool => Pg.ret (if v then (3 : Int) else 2)) (flaM mX s (decide (k = 3))).1).run mX (flaM mX s (decide (k = 3))).2 = _
      rw [hb', e]
      rfl
    clear h hk hb' e
    go_enter Tryz.func43, Tryz.ntmps43
    go_wp2_with fail
    refine (UF.out).mono ?_; rintro e w1 ⟨rfl, F1, h1, g1⟩
    cases V
    · go_wp2
      go_ret
      exact ⟨by rw [HR.out]; rfl, F1, by rw [HR.out]; exact h1, g1⟩
    · go_wp2
      go_ret
      exact ⟨by rw [HR.out]; rfl, F1, by rw [HR.out]; exact h1, g1⟩
set_option maxHeartbeats 8000000 in
set_option maxRecDepth 20000 in
theorem dwsq_any (a N : Nat) (key : Bool) (q : Sq) (vL v0 v1 v2 v3 : Value) (X : Nat → Prop) (s : Ms Xe) (F : Nat → Prop) (w : World) (h : DwF a w F s) (hk : okS okXm N s) (hN : N ≤ 3840000) (hx : HoF w X (fun W => SqIs W q vL v0 v1 v2 v3)) (hd : ∀ k, X k → ¬ F k) : Calls Tryz.prog 12 #[.pointer (some ⟨a, 0, none⟩), .bool key, sqQ q vL v0 v1 v2 v3] w (QPost (Sep (DwF a) HoF) (RSqR (sqX key q s)) F w) := by
  have UA := Lib.hid (fun w' (k : Ext w w') => rasks_any key q _ _ _ _ _ w' (hx.get.ext k))
  obtain ⟨aL, lL, cL, rfl⟩ := hx.get.1.slf
  obtain ⟨a0, l0, c0, rfl⟩ := hx.get.2.1.slf
  obtain ⟨a1, l1, c1, rfl⟩ := hx.get.2.2.1.slf
  obtain ⟨a2, l2, c2, rfl⟩ := hx.get.2.2.2.1.slf
  obtain ⟨a3, l3, c3, rfl⟩ := hx.get.2.2.2.2.slf
  have HW0 := Lib.hid h
  have hFl : ∀ k, F k → k < w.heap.size := fun k hk => (DwF.objD a).lt h k hk
  have HFL := Lib.hid hFl
  have HK := Lib.hid hk
  have HQX := Lib.hid hx
  have HDX := Lib.hid hd
  have hnp := ask_np key q
  obtain ⟨fa, hfa⟩ : ∃ f, askE key q = f := ⟨_, rfl⟩
  rw [hfa] at UA hnp
  have UO := Lib.hid (fun w' => (ok_any (cdF fa) (.slice none 0 0) w'))
  rw [np_ok hnp] at UO
  have HFA := Lib.hid hfa
  have HNP := Lib.hid hnp
  obtain ⟨gk, gm, ga, gb, gc, gd, gx, gy, xL, xs0, xs1, xs2, xs3⟩ := q
  have A0 := ((BoxIs.new w #[.int .i64 gk, .int .i64 gm, .int .i64 ga, .int .i64 gb, .int .i64 gc, .int .i64 gd, .int .i64 gx, .int .i64 gy, .slice aL lL cL, .slice a0 l0 c0, .slice a1 l1 c1, .slice a2 l2 c2, .slice a3 l3 c3] 42).ext ((Ext.refl _).alloc (.cells #[.int .i64 0, .int .i64 0, .int .i64 0, .int .i64 0, .int .i64 0, .int .i64 0, .int .i64 0, .int .i64 0, .slice none 0 0, .slice none 0 0, .slice none 0 0, .slice none 0 0, .slice none 0 0] 42))).ext ((Ext.refl _).alloc (.cells #[.int .i64 0, .slice none 0 0] 46))
  have A1 := (BoxIs.new (w.alloc (.cells #[.int .i64 gk, .int .i64 gm, .int .i64 ga, .int .i64 gb, .int .i64 gc, .int .i64 gd, .int .i64 gx, .int .i64 gy, .slice aL lL cL, .slice a0 l0 c0, .slice a1 l1 c1, .slice a2 l2 c2, .slice a3 l3 c3] 42)) #[.int .i64 0, .int .i64 0, .int .i64 0, .int .i64 0, .int .i64 0, .int .i64 0, .int .i64 0, .int .i64 0, .slice none 0 0, .slice none 0 0, .slice none 0 0, .slice none 0 0, .slice none 0 0] 42).ext ((Ext.refl _).alloc (.cells #[.int .i64 0, .slice none 0 0] 46))
  have A2 := BoxIs.new ((w.alloc (.cells #[.int .i64 gk, .int .i64 gm, .int .i64 ga, .int .i64 gb, .int .i64 gc, .int .i64 gd, .int .i64 gx, .int .i64 gy, .slice aL lL cL, .slice a0 l0 c0, .slice a1 l1 c1, .slice a2 l2 c2, .slice a3 l3 c3] 42)).alloc (.cells #[.int .i64 0, .int .i64 0, .int .i64 0, .int .i64 0, .int .i64 0, .int .i64 0, .int .i64 0, .int .i64 0, .slice none 0 0, .slice none 0 0, .slice none 0 0, .slice none 0 0, .slice none 0 0] 42)) #[.int .i64 0, .slice none 0 0] 46
  have hs1 : (w.alloc (.cells #[.int .i64 gk, .int .i64 gm, .int .i64 ga, .int .i64 gb, .int .i64 gc, .int .i64 gd, .int .i64 gx, .int .i64 gy, .slice aL lL cL, .slice a0 l0 c0, .slice a1 l1 c1, .slice a2 l2 c2, .slice a3 l3 c3] 42)).heap.size = w.heap.size + 1 := by simp
  have hs2 : ((w.alloc (.cells #[.int .i64 gk, .int .i64 gm, .int .i64 ga, .int .i64 gb, .int .i64 gc, .int .i64 gd, .int .i64 gx, .int .i64 gy, .slice aL lL cL, .slice a0 l0 c0, .slice a1 l1 c1, .slice a2 l2 c2, .slice a3 l3 c3] 42)).alloc (.cells #[.int .i64 0, .int .i64 0, .int .i64 0, .int .i64 0, .int .i64 0, .int .i64 0, .int .i64 0, .int .i64 0, .slice none 0 0, .slice none 0 0, .slice none 0 0, .slice none 0 0, .slice none 0 0] 42)).heap.size = w.heap.size + 2 := by simp
  rw [hs1] at A1
  rw [hs2] at A2
  have E2 := (((Ext.refl w).alloc (.cells #[.int .i64 gk, .int .i64 gm, .int .i64 ga, .int .i64 gb, .int .i64 gc, .int .i64 gd, .int .i64 gx, .int .i64 gy, .slice aL lL cL, .slice a0 l0 c0, .slice a1 l1 c1, .slice a2 l2 c2, .slice a3 l3 c3] 42)).alloc (.cells #[.int .i64 0, .int .i64 0, .int .i64 0, .int .i64 0, .int .i64 0, .int .i64 0, .int .i64 0, .int .i64 0, .slice none 0 0, .slice none 0 0, .slice none 0 0, .slice none 0 0, .slice none 0 0] 42)).alloc (.cells #[.int .i64 0, .slice none 0 0] 46)
  have hd0 : (((w.alloc (.cells #[.int .i64 gk, .int .i64 gm, .int .i64 ga, .int .i64 gb, .int .i64 gc, .int .i64 gd, .int .i64 gx, .int .i64 gy, .slice aL lL cL, .slice a0 l0 c0, .slice a1 l1 c1, .slice a2 l2 c2, .slice a3 l3 c3] 42)).alloc (.cells #[.int .i64 0, .int .i64 0, .int .i64 0, .int .i64 0, .int .i64 0, .int .i64 0, .int .i64 0, .int .i64 0, .slice none 0 0, .slice none 0 0, .slice none 0 0, .slice none 0 0, .slice none 0 0] 42)).alloc (.cells #[.int .i64 0, .slice none 0 0] 46)).cell? ⟨a, 0, none⟩ = some (.bool false) := E2.cell (by obtain ⟨_, _, _, _, hc, _⟩ := h; exact hc.1)
  obtain ⟨⟨g0, g1, g2, g3, g4, g5, g6, g7, g8, g9, g10, g11, g12⟩, -⟩ := sq_cells A0
  obtain ⟨w0, hw0⟩ : ∃ z, (((w.alloc (.cells #[.int .i64 gk, .int .i64 gm, .int .i64 ga, .int .i64 gb, .int .i64 gc, .int .i64 gd, .int .i64 gx, .int .i64 gy, .slice aL lL cL, .slice a0 l0 c0, .slice a1 l1 c1, .slice a2 l2 c2, .slice a3 l3 c3] 42)).alloc (.cells #[.int .i64 0, .int .i64 0, .int .i64 0, .int .i64 0, .int .i64 0, .int .i64 0, .int .i64 0, .int .i64 0, .slice none 0 0, .slice none 0 0, .slice none 0 0, .slice none 0 0, .slice none 0 0] 42)).alloc (.cells #[.int .i64 0, .slice none 0 0] 46)) = z := ⟨_, rfl⟩
  rw [hw0] at A0 A1 A2 E2
  have HA0 := Lib.hid A0
  have HA1 := Lib.hid A1
  have HA2 := Lib.hid A2
  have HE2 := Lib.hid E2
  have HW := Lib.hid hw0
  clear h hFl hk A0 A1 A2 hs1 hs2 E2 hw0 hx hd hnp hfa
  unfold sqQ sqV at UA
  unfold sqQ sqV
  go_enter Tryz.func12, Tryz.ntmps12
  go_wp2_with fail
  rw [HW.out]
  clear HW hd0 g0 g1 g2 g3 g4 g5 g6 g7 g8 g9 g10 g11 g12
  refine (UA.out _ HE2.out).mono ?_; rintro e w1 ⟨rfl, hx1⟩
  have N2 := BoxIs.new w1 #[.int .i64 (cdF fa), .slice none 0 0] 46
  have X2 := hx1.alloc (.cells #[.int .i64 (cdF fa), .slice none 0 0] 46)
  have hlt : w0.heap.size ≤ w1.heap.size := hx1.size
  obtain ⟨w2, hw2⟩ : ∃ z, w1.alloc (.cells #[.int .i64 (cdF fa), .slice none 0 0] 46) = z := ⟨_, rfl⟩
  rw [hw2] at N2 X2
  have HN2 := Lib.hid N2
  have HX2 := Lib.hid X2
  have HW2 := Lib.hid hw2
  clear N2 X2 hw2 hx1 UA
  go_wp2_with fail
  rw [HW2.out]
  clear HW2
  refine (UO.out _).mono ?_; rintro e w6 ⟨rfl, hx6⟩
  have HE6 := Lib.hid (HE2.out.trans (HX2.out.trans hx6))
  have HR6 := Lib.hid (HA1.out.ext (HX2.out.trans hx6))
  have HX6 := Lib.hid (HA2.out.ext (HX2.out.trans hx6))
  have HS6 := Lib.hid (HA0.out.ext (HX2.out.trans hx6))
  have HN6 := Lib.hid (HN2.out.ext hx6)
  have hb2 : w.heap.size + 2 < w1.heap.size := Nat.lt_of_lt_of_le HA2.out.lt hlt
  have HB1 : Hid (w.heap.size ≤ w.heap.size + 1) := Nat.le_succ _
  have HB2 : Hid (w.heap.size ≤ w.heap.size + 2) := by show _ ≤ _; omega
  have h12 : w.heap.size + 1 ≠ w.heap.size + 2 := by omega
  clear hx6 HN2 HX2 HA0 HA1 HA2 UO HE2
  cases fa with
  | some fe =>
    go_wp2_with fail
    refine wp_region_held_drew (S := fun w' => w'.cell? ⟨w1.heap.size, 0, none⟩ = some (.int .i64 (cdF (some fe))) ∧ w'.cell? ⟨w1.heap.size, 1, none⟩ = some (.slice none 0 0)) (by kernel_rfl) (⟨(HN6.out.ext ((Ext.refl _).drew)).cell rfl, (HN6.out.ext ((Ext.refl _).drew)).cell rfl⟩) (fun hHeld => ?_)
    refine wpAnyH_take (i := 0) (oi := { dst := some 33, op := Op.build 42 #[], type := 42, pos := "ref.go:126", after := #[], guard := none }) (v := ?_) rfl (by kernel_rfl) (by kernel_rfl) (by kernel_rfl) (fun _ _ _ h => h) (Or.inl ⟨by rfl, ?_⟩) (by assumption) ?_
    case refine_2 => (intro w hSw; (try dsimp only at hSw); go_simp; (try with_reducible rfl))
    try simp only [Act.put, List.setIfInBounds_toArray, List.set_cons_zero, List.set_cons_succ]
    refine wpAnyH_take (i := 1) (oi := { dst := some 34, op := Op.load 46 (Operand.tmp 9), type := 46, pos := "ref.go:126", after := #[{ on := 2, ground := Ground.gcOnly Departure.lateStores }], guard := none }) (v := ?_) rfl (by kernel_rfl) (by kernel_rfl) (by kernel_rfl) (fun _ _ _ h => h) (Or.inl ⟨by rfl, ?_⟩) (by assumption) ?_
    case refine_2 => (intro w hSw; (try dsimp only at hSw); go_simp; (try with_reducible rfl))
    try simp only [Act.put, List.setIfInBounds_toArray, List.set_cons_zero, List.set_cons_succ]
    obtain ⟨⟨e0, e1, e2, e3, e4, e5, e6, e7, e8, e9, e10, e11, e12⟩, f0, f1, f2, f3, f4, f5, f6, f7, f8, f9, f10, f11, f12⟩ := sq_cells HR6.out
    refine wpAnyH_ready (rs := [2]) (by kernel_rfl) (by simp) ?_
    refine AllReadyH.cons (o := { dst := none, op := Op.store 42 (Operand.tmp 6) (Operand.tmp 33), type := 0, pos := "ref.go:126", after := #[{ on := 0, ground := Ground.data }, { on := 0, ground := Ground.phase }, { on := 1, ground := Ground.textOnly Departure.lateStores }], guard := none }) rfl (fun K hK => ?_) AllReadyH.nil
    go_simp
    refine hK.out _ _ (⟨((set13_other HN6.out (b1 := w.heap.size + 1) (by omega) (.int .i64 0) (.int .i64 0) (.int .i64 0) (.int .i64 0) (.int .i64 0) (.int .i64 0) (.int .i64 0) (.int .i64 0) (.slice none 0 0) (.slice none 0 0) (.slice none 0 0) (.slice none 0 0) (.slice none 0 0)).ext ((Ext.refl _).drew)).cell rfl, ((set13_other HN6.out (b1 := w.heap.size + 1) (by omega) (.int .i64 0) (.int .i64 0) (.int .i64 0) (.int .i64 0) (.int .i64 0) (.int .i64 0) (.int .i64 0) (.int .i64 0) (.slice none 0 0) (.slice none 0 0) (.slice none 0 0) (.slice none 0 0) (.slice none 0 0)).ext ((Ext.refl _).drew)).cell rfl⟩) (fun hHeld => ?_)
    clear hK K
    try simp only [Act.put, List.setIfInBounds_toArray, List.set_cons_zero, List.set_cons_succ]
    have ey0 := (set13_other HX6.out h12 (.int .i64 0) (.int .i64 0) (.int .i64 0) (.int .i64 0) (.int .i64 0) (.int .i64 0) (.int .i64 0) (.int .i64 0) (.slice none 0 0) (.slice none 0 0) (.slice none 0 0) (.slice none 0 0) (.slice none 0 0)).cell (i := 0) (v := .int .i64 0) rfl
    have ey1 := (set13_other HX6.out h12 (.int .i64 0) (.int .i64 0) (.int .i64 0) (.int .i64 0) (.int .i64 0) (.int .i64 0) (.int .i64 0) (.int .i64 0) (.slice none 0 0) (.slice none 0 0) (.slice none 0 0) (.slice none 0 0) (.slice none 0 0)).cell (i := 1) (v := .slice none 0 0) rfl
    have yf0 := (set13_other HX6.out h12 (.int .i64 0) (.int .i64 0) (.int .i64 0) (.int .i64 0) (.int .i64 0) (.int .i64 0) (.int .i64 0) (.int .i64 0) (.slice none 0 0) (.slice none 0 0) (.slice none 0 0) (.slice none 0 0) (.slice none 0 0)).free (i := 0)
    have yf1 := (set13_other HX6.out h12 (.int .i64 0) (.int .i64 0) (.int .i64 0) (.int .i64 0) (.int .i64 0) (.int .i64 0) (.int .i64 0) (.int .i64 0) (.slice none 0 0) (.slice none 0 0) (.slice none 0 0) (.slice none 0 0) (.slice none 0 0)).free (i := 1)
    clear e0 e1 e2 e3 e4 e5 e6 e7 e8 e9 e10 e11 e12 f0 f1 f2 f3 f4 f5 f6 f7 f8 f9 f10 f11 f12
    refine wpAnyH_ready (rs := [3]) (by kernel_rfl) (by simp) ?_
    refine AllReadyH.cons (o := { dst := none, op := Op.store 46 (Operand.tmp 7) (Operand.tmp 34), type := 0, pos := "ref.go:126", after := #[{ on := 1, ground := Ground.data }, { on := 2, ground := Ground.chain }, { on := 0, ground := Ground.phase }, { on := 1, ground := Ground.phase }, { on := 2, ground := Ground.phase }], guard := none }) rfl (fun K hK => ?_) AllReadyH.nil
    go_simp
    refine hK.out _ _ (⟨((((set13_other HN6.out (b1 := w.heap.size + 1) (by omega) (.int .i64 0) (.int .i64 0) (.int .i64 0) (.int .i64 0) (.int .i64 0) (.int .i64 0) (.int .i64 0) (.int .i64 0) (.slice none 0 0) (.slice none 0 0) (.slice none 0 0) (.slice none 0 0) (.slice none 0 0)).other (p := ⟨w.heap.size + 2, 0, none⟩) (by show w.heap.size + 2 ≠ w1.heap.size; omega) _).other (p := ⟨w.heap.size + 2, 1, none⟩) (by show w.heap.size + 2 ≠ w1.heap.size; omega) _).ext ((Ext.refl _).drew)).cell rfl, ((((set13_other HN6.out (b1 := w.heap.size + 1) (by omega) (.int .i64 0) (.int .i64 0) (.int .i64 0) (.int .i64 0) (.int .i64 0) (.int .i64 0) (.int .i64 0) (.int .i64 0) (.slice none 0 0) (.slice none 0 0) (.slice none 0 0) (.slice none 0 0) (.slice none 0 0)).other (p := ⟨w.heap.size + 2, 0, none⟩) (by show w.heap.size + 2 ≠ w1.heap.size; omega) _).other (p := ⟨w.heap.size + 2, 1, none⟩) (by show w.heap.size + 2 ≠ w1.heap.size; omega) _).ext ((Ext.refl _).drew)).cell rfl⟩) (fun hHeld => ?_)
    clear hK K hHeld
    try simp only [Act.put, List.setIfInBounds_toArray, List.set_cons_zero, List.set_cons_succ]
    refine wpAnyH_done (by kernel_rfl) ?_ _
    have hO := Obj.ext (DwF.objD a) HW0.out HE6.out
    obtain ⟨z1, z2, z3, z4⟩ := fin_all (DwF.objD a) hO (Step.of_ext (F := F) HE6.out) HB1.out (fun h => by have := HFL.out _ h; omega) HB2.out (fun h => by have := HFL.out _ h; omega) h12 HR6.out HX6.out (.int .i64 0) (.int .i64 0) (.int .i64 0) (.int .i64 0) (.int .i64 0) (.int .i64 0) (.int .i64 0) (.int .i64 0) (.slice none 0 0) (.slice none 0 0) (.slice none 0 0) (.slice none 0 0) (.slice none 0 0) (.int .i64 (cdF (some fe))) (.slice none 0 0)
    have z1 := Obj.ext (DwF.objD a) z1 ((Ext.refl _).drew)
    have z2 := z2.ext ((Ext.refl _).drew)
    have z3 := z3.ext ((Ext.refl _).drew)
    have z4 := z4.ext ((Ext.refl _).drew)
    clear ey0 ey1 yf0 yf1 hO
    generalize World.drew _ = wz at z1 z2 z3 z4 ⊢
    obtain ⟨⟨g0, g1, g2, g3, g4, g5, g6, g7, g8, g9, g10, g11, g12⟩, -⟩ := sq_cells z3
    have ey0 := z4.cell (i := 0) (v := .int .i64 (cdF (some fe))) rfl
    have ey1 := z4.cell (i := 1) (v := .slice none 0 0) rfl
    have HZ1 := Lib.hid z1
    have HZ2 := Lib.hid z2
    clear z1 z2 z3 z4
    have HSX : Hid (sqX key ⟨gk, gm, ga, gb, gc, gd, gx, gy, xL, xs0, xs1, xs2, xs3⟩ s = ((some fe, sq0), s)) := by show _ = _; unfold sqX; rw [HFA.out]
    go_wp2
    exact bodyPost_ret (v := .tuple #[.agg #[.int .i64 0, .int .i64 0, .int .i64 0, .int .i64 0, .int .i64 0, .int .i64 0, .int .i64 0, .int .i64 0, .slice none 0 0, .slice none 0 0, .slice none 0 0, .slice none 0 0, .slice none 0 0], .agg #[.int .i64 (cdF (some fe)), .slice none 0 0]]) (by simp [results, Tryz.results12, go_sem, g0, g1, g2, g3, g4, g5, g6, g7, g8, g9, g10, g11, g12, ey0, ey1]) rfl (RSqR.done (q := sq0) (L := nilS) (s0 := nilS) (s1 := nilS) (s2 := nilS) (s3 := nilS) HSX.out (Sep.pure (P := fun _ => True) HZ1.out (fun _ => trivial)) HZ2.out (fun W _ => ⟨SqIs.nil W 0, HNP.out.is W⟩))
  | none =>
    have HOK := Lib.hid (ask_out HFA.out).1
    have HLI := Lib.hid (ask_out HFA.out).2.2
    have HSX : Hid (sqX key ⟨gk, gm, ga, gb, gc, gd, gx, gy, xL, xs0, xs1, xs2, xs3⟩ s = (sqP key gk ⟨gk, gm, ga, gb, gc, gd, gx, gy, xL, xs0, xs1, xs2, xs3⟩).run mX s) := by show _ = _; unfold sqX; rw [HFA.out]
    have hq6 : HoF w6 X (fun W => SqIs W ⟨gk, gm, ga, gb, gc, gd, gx, gy, xL, xs0, xs1, xs2, xs3⟩ (.slice aL lL cL) (.slice a0 l0 c0) (.slice a1 l1 c1) (.slice a2 l2 c2) (.slice a3 l3 c3)) := HQX.out.ext HE6.out
    have hAll := ((((HoF.box HR6.out).and (HoF.box HX6.out)).and (HoF.box HS6.out))).and hq6
    have hDD : ∀ k, (((k = w.heap.size + 1 ∨ k = w.heap.size + 2) ∨ k = w.heap.size) ∨ X k) → ¬ F k := by
      rintro k (((rfl | rfl) | rfl) | hk) hf
      · have := HFL.out _ hf; omega
      · have := HFL.out _ hf; omega
      · have := HFL.out _ hf; omega
      · exact HDX.out k hk hf
    have HAL := Lib.hid hAll
    have HDD := Lib.hid hDD
    have k0 := HS6.out.cell (i := 0) (v := .int .i64 gk) rfl
    clear hAll hDD hq6 HR6 HX6 HS6 HN6 HQX HDX HNP
    go_wp2_with fail
    obtain ⟨⟨kk, t1⟩, ek⟩ : ∃ r, (kyP key (gk)).run mX s = r := ⟨_, rfl⟩
    have hgk : gk = kk := by have h := Pg.toldX (kyP key gk) s; rw [ek] at h; exact (ky_hand HOK.out).symm.trans h.symm
    have hkk : 0 ≤ kk ∧ kk ≤ 3 := by have h := ky_in (M := mX) key (gk) s; rw [ek] at h; simp only [okK, Bool.and_eq_true, decide_eq_true_eq] at h; exact h.1
    have hk1 := Pg.ok mkX (ky_dep key (gk)) HK.out
    rw [ek] at hk1
    have U7 := dwckind_any a N  key (gk) s F w6 (Obj.ext (DwF.objD a) HW0.out HE6.out) HK.out (by omega)
    rw [ek] at U7
    refine U7.mono ?_; rintro e w7 ⟨rfl, F1, y1, st1⟩
    clear U7 k0
    dsimp only
    have N8 := (BoxIs.new w7 #[.int .i64 kk, .int .i64 0, .int .i64 0, .int .i64 0, .int .i64 0, .int .i64 0, .int .i64 0, .int .i64 0, .slice none 0 0, .slice none 0 0, .slice none 0 0, .slice none 0 0, .slice none 0 0] 42).ext ((Ext.refl _).alloc (.cells #[.int .i64 0, .slice none 0 0] 46))
    have M8 := BoxIs.new (w7.alloc (.cells #[.int .i64 kk, .int .i64 0, .int .i64 0, .int .i64 0, .int .i64 0, .int .i64 0, .int .i64 0, .int .i64 0, .slice none 0 0, .slice none 0 0, .slice none 0 0, .slice none 0 0, .slice none 0 0] 42)) #[.int .i64 0, .slice none 0 0] 46
    have hs8 : (w7.alloc (.cells #[.int .i64 kk, .int .i64 0, .int .i64 0, .int .i64 0, .int .i64 0, .int .i64 0, .int .i64 0, .int .i64 0, .slice none 0 0, .slice none 0 0, .slice none 0 0, .slice none 0 0, .slice none 0 0] 42)).heap.size = w7.heap.size + 1 := by simp
    rw [hs8] at M8
    have X8 := ((Ext.refl w7).alloc (.cells #[.int .i64 kk, .int .i64 0, .int .i64 0, .int .i64 0, .int .i64 0, .int .i64 0, .int .i64 0, .int .i64 0, .slice none 0 0, .slice none 0 0, .slice none 0 0, .slice none 0 0, .slice none 0 0] 42)).alloc (.cells #[.int .i64 0, .slice none 0 0] 46)
    obtain ⟨w8, hw8⟩ : ∃ z, (w7.alloc (.cells #[.int .i64 kk, .int .i64 0, .int .i64 0, .int .i64 0, .int .i64 0, .int .i64 0, .int .i64 0, .int .i64 0, .slice none 0 0, .slice none 0 0, .slice none 0 0, .slice none 0 0, .slice none 0 0] 42)).alloc (.cells #[.int .i64 0, .slice none 0 0] 46) = z := ⟨_, rfl⟩
    rw [hw8] at N8 M8 X8
    obtain ⟨S8, T8⟩ := Sep.new (DwF.objD a) (B := BpF w7.heap.size (w7.heap.size + 1)) (G := fun k => k = w7.heap.size ∨ k = w7.heap.size + 1) (t := (zeA kk, #[.int .i64 0, .slice none 0 0])) y1 X8 ⟨N8, M8, by omega, fun _ => Iff.rfl⟩ (fun k hk => by rcases hk with rfl | rfl <;> omega)
    have HI0 := Lib.hid (st1.trans T8)
    have HS0 : Hid (Sep (Sep (DwF a) (BpF w7.heap.size (w7.heap.size + 1))) HoF w8 _ ((t1, (#[.int .i64 kk, .int .i64 0, .int .i64 0, .int .i64 0, .int .i64 0, .int .i64 0, .int .i64 0, .int .i64 0, .slice none 0 0, .slice none 0 0, .slice none 0 0, .slice none 0 0, .slice none 0 0], #[.int .i64 0, .slice none 0 0])), fun _ => True)) := Sep.pure S8 (fun _ => trivial)
    have HW8 := Lib.hid hw8
    have HKP := Lib.hid (fun G wz (st : Step F w6 G wz) => ho_keep HAL.out HDD.out st)
    clear N8 M8 hs8 X8 S8 T8 y1 st1
    have HEK := Lib.hid ek
    have HK1 := Lib.hid hk1
    clear ek hk1 HK
    have hgb : BoxIs w8 w.heap.size #[.int .i64 gk, .int .i64 gm, .int .i64 ga, .int .i64 gb, .int .i64 gc, .int .i64 gd, .int .i64 gx, .int .i64 gy, .slice aL lL cL, .slice a0 l0 c0, .slice a1 l1 c1, .slice a2 l2 c2, .slice a3 l3 c3] 42 := (HKP.out _ _ HI0.out).1.get.1.2
    have hpb := (bp_p HS0.out).1
    have heb := (bp_p HS0.out).2
    skip
    rw [← hw8] at hgb hpb heb
    clear hw8
    obtain ⟨⟨s0, s1, s2, s3, s4, s5, s6, s7, s8, s9, s10, s11, s12⟩, -⟩ := sq_cells hgb
    obtain ⟨⟨p0, p1, p2, p3, p4, p5, p6, p7, p8, p9, p10, p11, p12⟩, -⟩ := sq_cells hpb
    have ec0 := heb.cell (i := 0) (v := .int .i64 0) rfl
    have ec1 := heb.cell (i := 1) (v := .slice none 0 0) rfl
    clear hgb hpb heb
    obtain ⟨h0, h1⟩ := hkk
    by_cases hkk0 : kk = 0
    · subst hkk0
      have HA : Hid ((sqP key (gk) ⟨gk, gm, ga, gb, gc, gd, gx, gy, xL, xs0, xs1, xs2, xs3⟩).run mX s = ((none, { sq0 with k := 0 }), t1)) := sq_run_ok HEK.out rfl
      go_wp2_with fail
      refine wp_loop_rounds 2 ?_
      rw [rounds_succ]
      go_wp2_with fail
      rw [HW8.out]
      clear s0 s1 s2 s3 s4 s5 s6 s7 s8 s9 s10 s11 s12 p0 p1 p2 p3 p4 p5 p6 p7 p8 p9 p10 p11 p12 ec0 ec1
      refine (ok_any _ _ _).mono ?_; rintro e wk ⟨rfl, hxk⟩
      have HSk := Lib.hid (Obj.ext (((DwF.objD a).sep (BpF.obj w7.heap.size (w7.heap.size + 1))).sep HoF.obj) HS0.out hxk)
      have HIk := Lib.hid (HI0.out.ext hxk)
      clear hxk HS0 HI0
      go_wp2_with fail
      obtain ⟨qa, qd⟩ := HKP.out _ _ HIk.out
      have HRB := Lib.hid qa.get.1.1.1
      have HEB := Lib.hid qa.get.1.1.2
      have HN1 := Lib.hid (qd (w.heap.size + 1) (.inl (.inl (.inl rfl))))
      have HN2 := Lib.hid (qd (w.heap.size + 2) (.inl (.inl (.inr rfl))))
      clear qa qd
      have HPB := Lib.hid (bp_p HSk.out).1
      have HXB := Lib.hid (bp_p HSk.out).2
      have hne1 : w.heap.size + 1 ≠ w7.heap.size := fun e => HN1.out (by rw [e]; exact bp_in HSk.out (.inl rfl))
      have hne2 : w.heap.size + 1 ≠ w7.heap.size + 1 := fun e => HN1.out (by rw [e]; exact bp_in HSk.out (.inr rfl))
      have hne3 : w.heap.size + 2 ≠ w7.heap.size := fun e => HN2.out (by rw [e]; exact bp_in HSk.out (.inl rfl))
      have hne4 : w.heap.size + 2 ≠ w7.heap.size + 1 := fun e => HN2.out (by rw [e]; exact bp_in HSk.out (.inr rfl))
      refine wp_region_held_drew (S := fun w' => w'.cell? ⟨w7.heap.size, 0, none⟩ = some (.int .i64 0) ∧ w'.cell? ⟨w7.heap.size, 1, none⟩ = some (.int .i64 0) ∧ w'.cell? ⟨w7.heap.size, 2, none⟩ = some (.int .i64 0) ∧ w'.cell? ⟨w7.heap.size, 3, none⟩ = some (.int .i64 0) ∧ w'.cell? ⟨w7.heap.size, 4, none⟩ = some (.int .i64 0) ∧ w'.cell? ⟨w7.heap.size, 5, none⟩ = some (.int .i64 0) ∧ w'.cell? ⟨w7.heap.size, 6, none⟩ = some (.int .i64 0) ∧ w'.cell? ⟨w7.heap.size, 7, none⟩ = some (.int .i64 0) ∧ w'.cell? ⟨w7.heap.size, 8, none⟩ = some (.slice none 0 0) ∧ w'.cell? ⟨w7.heap.size, 9, none⟩ = some (.slice none 0 0) ∧ w'.cell? ⟨w7.heap.size, 10, none⟩ = some (.slice none 0 0) ∧ w'.cell? ⟨w7.heap.size, 11, none⟩ = some (.slice none 0 0) ∧ w'.cell? ⟨w7.heap.size, 12, none⟩ = some (.slice none 0 0) ∧ w'.cell? ⟨w7.heap.size + 1, 0, none⟩ = some (.int .i64 0) ∧ w'.cell? ⟨w7.heap.size + 1, 1, none⟩ = some (.slice none 0 0)) (by kernel_rfl) (⟨(HPB.out.ext ((Ext.refl _).drew)).cell rfl, (HPB.out.ext ((Ext.refl _).drew)).cell rfl, (HPB.out.ext ((Ext.refl _).drew)).cell rfl, (HPB.out.ext ((Ext.refl _).drew)).cell rfl, (HPB.out.ext ((Ext.refl _).drew)).cell rfl, (HPB.out.ext ((Ext.refl _).drew)).cell rfl, (HPB.out.ext ((Ext.refl _).drew)).cell rfl, (HPB.out.ext ((Ext.refl _).drew)).cell rfl, (HPB.out.ext ((Ext.refl _).drew)).cell rfl, (HPB.out.ext ((Ext.refl _).drew)).cell rfl, (HPB.out.ext ((Ext.refl _).drew)).cell rfl, (HPB.out.ext ((Ext.refl _).drew)).cell rfl, (HPB.out.ext ((Ext.refl _).drew)).cell rfl, (HXB.out.ext ((Ext.refl _).drew)).cell rfl, (HXB.out.ext ((Ext.refl _).drew)).cell rfl⟩) (fun hHeld => ?_)
      refine wpAnyH_take (i := 0) (oi := { dst := some 125, op := Op.load 42 (Operand.tmp 10), type := 42, pos := "ref.go:147", after := #[], guard := none }) (v := ?_) rfl (by kernel_rfl) (by kernel_rfl) (by kernel_rfl) (fun _ _ _ h => h) (Or.inl ⟨by rfl, ?_⟩) (by assumption) ?_
      case refine_2 => (intro w hSw; (try dsimp only at hSw); go_simp; (try with_reducible rfl))
      try simp only [Act.put, List.setIfInBounds_toArray, List.set_cons_zero, List.set_cons_succ]
      refine wpAnyH_take (i := 1) (oi := { dst := some 126, op := Op.load 46 (Operand.tmp 11), type := 46, pos := "ref.go:147", after := #[{ on := 2, ground := Ground.gcOnly Departure.lateStores }], guard := none }) (v := ?_) rfl (by kernel_rfl) (by kernel_rfl) (by kernel_rfl) (fun _ _ _ h => h) (Or.inl ⟨by rfl, ?_⟩) (by assumption) ?_
      case refine_2 => (intro w hSw; (try dsimp only at hSw); go_simp; (try with_reducible rfl))
      try simp only [Act.put, List.setIfInBounds_toArray, List.set_cons_zero, List.set_cons_succ]
      obtain ⟨⟨e0, e1, e2, e3, e4, e5, e6, e7, e8, e9, e10, e11, e12⟩, f0, f1, f2, f3, f4, f5, f6, f7, f8, f9, f10, f11, f12⟩ := sq_cells HRB.out
      refine wpAnyH_ready (rs := [2]) (by kernel_rfl) (by simp) ?_
      refine AllReadyH.cons (o := { dst := none, op := Op.store 42 (Operand.tmp 6) (Operand.tmp 125), type := 0, pos := "ref.go:147", after := #[{ on := 0, ground := Ground.data }, { on := 0, ground := Ground.phase }, { on := 1, ground := Ground.textOnly Departure.lateStores }], guard := none }) rfl (fun K hK => ?_) AllReadyH.nil
      go_simp
      refine hK.out _ _ (⟨((set13_other HPB.out hne1 (.int .i64 0) (.int .i64 0) (.int .i64 0) (.int .i64 0) (.int .i64 0) (.int .i64 0) (.int .i64 0) (.int .i64 0) (.slice none 0 0) (.slice none 0 0) (.slice none 0 0) (.slice none 0 0) (.slice none 0 0)).ext ((Ext.refl _).drew)).cell rfl, ((set13_other HPB.out hne1 (.int .i64 0) (.int .i64 0) (.int .i64 0) (.int .i64 0) (.int .i64 0) (.int .i64 0) (.int .i64 0) (.int .i64 0) (.slice none 0 0) (.slice none 0 0) (.slice none 0 0) (.slice none 0 0) (.slice none 0 0)).ext ((Ext.refl _).drew)).cell rfl, ((set13_other HPB.out hne1 (.int .i64 0) (.int .i64 0) (.int .i64 0) (.int .i64 0) (.int .i64 0) (.int .i64 0) (.int .i64 0) (.int .i64 0) (.slice none 0 0) (.slice none 0 0) (.slice none 0 0) (.slice none 0 0) (.slice none 0 0)).ext ((Ext.refl _).drew)).cell rfl, ((set13_other HPB.out hne1 (.int .i64 0) (.int .i64 0) (.int .i64 0) (.int .i64 0) (.int .i64 0) (.int .i64 0) (.int .i64 0) (.int .i64 0) (.slice none 0 0) (.slice none 0 0) (.slice none 0 0) (.slice none 0 0) (.slice none 0 0)).ext ((Ext.refl _).drew)).cell rfl, ((set13_other HPB.out hne1 (.int .i64 0) (.int .i64 0) (.int .i64 0) (.int .i64 0) (.int .i64 0) (.int .i64 0) (.int .i64 0) (.int .i64 0) (.slice none 0 0) (.slice none 0 0) (.slice none 0 0) (.slice none 0 0) (.slice none 0 0)).ext ((Ext.refl _).drew)).cell rfl, ((set13_other HPB.out hne1 (.int .i64 0) (.int .i64 0) (.int .i64 0) (.int .i64 0) (.int .i64 0) (.int .i64 0) (.int .i64 0) (.int .i64 0) (.slice none 0 0) (.slice none 0 0) (.slice none 0 0) (.slice none 0 0) (.slice none 0 0)).ext ((Ext.refl _).drew)).cell rfl, ((set13_other HPB.out hne1 (.int .i64 0) (.int .i64 0) (.int .i64 0) (.int .i64 0) (.int .i64 0) (.int .i64 0) (.int .i64 0) (.int .i64 0) (.slice none 0 0) (.slice none 0 0) (.slice none 0 0) (.slice none 0 0) (.slice none 0 0)).ext ((Ext.refl _).drew)).cell rfl, ((set13_other HPB.out hne1 (.int .i64 0) (.int .i64 0) (.int .i64 0) (.int .i64 0) (.int .i64 0) (.int .i64 0) (.int .i64 0) (.int .i64 0) (.slice none 0 0) (.slice none 0 0) (.slice none 0 0) (.slice none 0 0) (.slice none 0 0)).ext ((Ext.refl _).drew)).cell rfl, ((set13_other HPB.out hne1 (.int .i64 0) (.int .i64 0) (.int .i64 0) (.int .i64 0) (.int .i64 0) (.int .i64 0) (.int .i64 0) (.int .i64 0) (.slice none 0 0) (.slice none 0 0) (.slice none 0 0) (.slice none 0 0) (.slice none 0 0)).ext ((Ext.refl _).drew)).cell rfl, ((set13_other HPB.out hne1 (.int .i64 0) (.int .i64 0) (.int .i64 0) (.int .i64 0) (.int .i64 0) (.int .i64 0) (.int .i64 0) (.int .i64 0) (.slice none 0 0) (.slice none 0 0) (.slice none 0 0) (.slice none 0 0) (.slice none 0 0)).ext ((Ext.refl _).drew)).cell rfl, ((set13_other HPB.out hne1 (.int .i64 0) (.int .i64 0) (.int .i64 0) (.int .i64 0) (.int .i64 0) (.int .i64 0) (.int .i64 0) (.int .i64 0) (.slice none 0 0) (.slice none 0 0) (.slice none 0 0) (.slice none 0 0) (.slice none 0 0)).ext ((Ext.refl _).drew)).cell rfl, ((set13_other HPB.out hne1 (.int .i64 0) (.int .i64 0) (.int .i64 0) (.int .i64 0) (.int .i64 0) (.int .i64 0) (.int .i64 0) (.int .i64 0) (.slice none 0 0) (.slice none 0 0) (.slice none 0 0) (.slice none 0 0) (.slice none 0 0)).ext ((Ext.refl _).drew)).cell rfl, ((set13_other HPB.out hne1 (.int .i64 0) (.int .i64 0) (.int .i64 0) (.int .i64 0) (.int .i64 0) (.int .i64 0) (.int .i64 0) (.int .i64 0) (.slice none 0 0) (.slice none 0 0) (.slice none 0 0) (.slice none 0 0) (.slice none 0 0)).ext ((Ext.refl _).drew)).cell rfl, ((set13_other HXB.out hne2 (.int .i64 0) (.int .i64 0) (.int .i64 0) (.int .i64 0) (.int .i64 0) (.int .i64 0) (.int .i64 0) (.int .i64 0) (.slice none 0 0) (.slice none 0 0) (.slice none 0 0) (.slice none 0 0) (.slice none 0 0)).ext ((Ext.refl _).drew)).cell rfl, ((set13_other HXB.out hne2 (.int .i64 0) (.int .i64 0) (.int .i64 0) (.int .i64 0) (.int .i64 0) (.int .i64 0) (.int .i64 0) (.int .i64 0) (.slice none 0 0) (.slice none 0 0) (.slice none 0 0) (.slice none 0 0) (.slice none 0 0)).ext ((Ext.refl _).drew)).cell rfl⟩) (fun hHeld => ?_)
      clear hK K
      try simp only [Act.put, List.setIfInBounds_toArray, List.set_cons_zero, List.set_cons_succ]
      have ey0 := (set13_other HEB.out h12 (.int .i64 0) (.int .i64 0) (.int .i64 0) (.int .i64 0) (.int .i64 0) (.int .i64 0) (.int .i64 0) (.int .i64 0) (.slice none 0 0) (.slice none 0 0) (.slice none 0 0) (.slice none 0 0) (.slice none 0 0)).cell (i := 0) (v := .int .i64 0) rfl
      have ey1 := (set13_other HEB.out h12 (.int .i64 0) (.int .i64 0) (.int .i64 0) (.int .i64 0) (.int .i64 0) (.int .i64 0) (.int .i64 0) (.int .i64 0) (.slice none 0 0) (.slice none 0 0) (.slice none 0 0) (.slice none 0 0) (.slice none 0 0)).cell (i := 1) (v := .slice none 0 0) rfl
      have yf0 := (set13_other HEB.out h12 (.int .i64 0) (.int .i64 0) (.int .i64 0) (.int .i64 0) (.int .i64 0) (.int .i64 0) (.int .i64 0) (.int .i64 0) (.slice none 0 0) (.slice none 0 0) (.slice none 0 0) (.slice none 0 0) (.slice none 0 0)).free (i := 0)
      have yf1 := (set13_other HEB.out h12 (.int .i64 0) (.int .i64 0) (.int .i64 0) (.int .i64 0) (.int .i64 0) (.int .i64 0) (.int .i64 0) (.int .i64 0) (.slice none 0 0) (.slice none 0 0) (.slice none 0 0) (.slice none 0 0) (.slice none 0 0)).free (i := 1)
      clear e0 e1 e2 e3 e4 e5 e6 e7 e8 e9 e10 e11 e12 f0 f1 f2 f3 f4 f5 f6 f7 f8 f9 f10 f11 f12
      refine wpAnyH_ready (rs := [3]) (by kernel_rfl) (by simp) ?_
      refine AllReadyH.cons (o := { dst := none, op := Op.store 46 (Operand.tmp 7) (Operand.tmp 126), type := 0, pos := "ref.go:147", after := #[{ on := 1, ground := Ground.data }, { on := 2, ground := Ground.chain }, { on := 0, ground := Ground.phase }, { on := 1, ground := Ground.phase }, { on := 2, ground := Ground.phase }], guard := none }) rfl (fun K hK => ?_) AllReadyH.nil
      go_simp
      refine hK.out _ _ (⟨((((set13_other HPB.out hne1 (.int .i64 0) (.int .i64 0) (.int .i64 0) (.int .i64 0) (.int .i64 0) (.int .i64 0) (.int .i64 0) (.int .i64 0) (.slice none 0 0) (.slice none 0 0) (.slice none 0 0) (.slice none 0 0) (.slice none 0 0)).other (p := ⟨w.heap.size + 2, 0, none⟩) hne3 _).other (p := ⟨w.heap.size + 2, 1, none⟩) hne3 _).ext ((Ext.refl _).drew)).cell rfl, ((((set13_other HPB.out hne1 (.int .i64 0) (.int .i64 0) (.int .i64 0) (.int .i64 0) (.int .i64 0) (.int .i64 0) (.int .i64 0) (.int .i64 0) (.slice none 0 0) (.slice none 0 0) (.slice none 0 0) (.slice none 0 0) (.slice none 0 0)).other (p := ⟨w.heap.size + 2, 0, none⟩) hne3 _).other (p := ⟨w.heap.size + 2, 1, none⟩) hne3 _).ext ((Ext.refl _).drew)).cell rfl, ((((set13_other HPB.out hne1 (.int .i64 0) (.int .i64 0) (.int .i64 0) (.int .i64 0) (.int .i64 0) (.int .i64 0) (.int .i64 0) (.int .i64 0) (.slice none 0 0) (.slice none 0 0) (.slice none 0 0) (.slice none 0 0) (.slice none 0 0)).other (p := ⟨w.heap.size + 2, 0, none⟩) hne3 _).other (p := ⟨w.heap.size + 2, 1, none⟩) hne3 _).ext ((Ext.refl _).drew)).cell rfl, ((((set13_other HPB.out hne1 (.int .i64 0) (.int .i64 0) (.int .i64 0) (.int .i64 0) (.int .i64 0) (.int .i64 0) (.int .i64 0) (.int .i64 0) (.slice none 0 0) (.slice none 0 0) (.slice none 0 0) (.slice none 0 0) (.slice none 0 0)).other (p := ⟨w.heap.size + 2, 0, none⟩) hne3 _).other (p := ⟨w.heap.size + 2, 1, none⟩) hne3 _).ext ((Ext.refl _).drew)).cell rfl, ((((set13_other HPB.out hne1 (.int .i64 0) (.int .i64 0) (.int .i64 0) (.int .i64 0) (.int .i64 0) (.int .i64 0) (.int .i64 0) (.int .i64 0) (.slice none 0 0) (.slice none 0 0) (.slice none 0 0) (.slice none 0 0) (.slice none 0 0)).other (p := ⟨w.heap.size + 2, 0, none⟩) hne3 _).other (p := ⟨w.heap.size + 2, 1, none⟩) hne3 _).ext ((Ext.refl _).drew)).cell rfl, ((((set13_other HPB.out hne1 (.int .i64 0) (.int .i64 0) (.int .i64 0) (.int .i64 0) (.int .i64 0) (.int .i64 0) (.int .i64 0) (.int .i64 0) (.slice none 0 0) (.slice none 0 0) (.slice none 0 0) (.slice none 0 0) (.slice none 0 0)).other (p := ⟨w.heap.size + 2, 0, none⟩) hne3 _).other (p := ⟨w.heap.size + 2, 1, none⟩) hne3 _).ext ((Ext.refl _).drew)).cell rfl, ((((set13_other HPB.out hne1 (.int .i64 0) (.int .i64 0) (.int .i64 0) (.int .i64 0) (.int .i64 0) (.int .i64 0) (.int .i64 0) (.int .i64 0) (.slice none 0 0) (.slice none 0 0) (.slice none 0 0) (.slice none 0 0) (.slice none 0 0)).other (p := ⟨w.heap.size + 2, 0, none⟩) hne3 _).other (p := ⟨w.heap.size + 2, 1, none⟩) hne3 _).ext ((Ext.refl _).drew)).cell rfl, ((((set13_other HPB.out hne1 (.int .i64 0) (.int .i64 0) (.int .i64 0) (.int .i64 0) (.int .i64 0) (.int .i64 0) (.int .i64 0) (.int .i64 0) (.slice none 0 0) (.slice none 0 0) (.slice none 0 0) (.slice none 0 0) (.slice none 0 0)).other (p := ⟨w.heap.size + 2, 0, none⟩) hne3 _).other (p := ⟨w.heap.size + 2, 1, none⟩) hne3 _).ext ((Ext.refl _).drew)).cell rfl, ((((set13_other HPB.out hne1 (.int .i64 0) (.int .i64 0) (.int .i64 0) (.int .i64 0) (.int .i64 0) (.int .i64 0) (.int .i64 0) (.int .i64 0) (.slice none 0 0) (.slice none 0 0) (.slice none 0 0) (.slice none 0 0) (.slice none 0 0)).other (p := ⟨w.heap.size + 2, 0, none⟩) hne3 _).other (p := ⟨w.heap.size + 2, 1, none⟩) hne3 _).ext ((Ext.refl _).drew)).cell rfl, ((((set13_other HPB.out hne1 (.int .i64 0) (.int .i64 0) (.int .i64 0) (.int .i64 0) (.int .i64 0) (.int .i64 0) (.int .i64 0) (.int .i64 0) (.slice none 0 0) (.slice none 0 0) (.slice none 0 0) (.slice none 0 0) (.slice none 0 0)).other (p := ⟨w.heap.size + 2, 0, none⟩) hne3 _).other (p := ⟨w.heap.size + 2, 1, none⟩) hne3 _).ext ((Ext.refl _).drew)).cell rfl, ((((set13_other HPB.out hne1 (.int .i64 0) (.int .i64 0) (.int .i64 0) (.int .i64 0) (.int .i64 0) (.int .i64 0) (.int .i64 0) (.int .i64 0) (.slice none 0 0) (.slice none 0 0) (.slice none 0 0) (.slice none 0 0) (.slice none 0 0)).other (p := ⟨w.heap.size + 2, 0, none⟩) hne3 _).other (p := ⟨w.heap.size + 2, 1, none⟩) hne3 _).ext ((Ext.refl _).drew)).cell rfl, ((((set13_other HPB.out hne1 (.int .i64 0) (.int .i64 0) (.int .i64 0) (.int .i64 0) (.int .i64 0) (.int .i64 0) (.int .i64 0) (.int .i64 0) (.slice none 0 0) (.slice none 0 0) (.slice none 0 0) (.slice none 0 0) (.slice none 0 0)).other (p := ⟨w.heap.size + 2, 0, none⟩) hne3 _).other (p := ⟨w.heap.size + 2, 1, none⟩) hne3 _).ext ((Ext.refl _).drew)).cell rfl, ((((set13_other HPB.out hne1 (.int .i64 0) (.int .i64 0) (.int .i64 0) (.int .i64 0) (.int .i64 0) (.int .i64 0) (.int .i64 0) (.int .i64 0) (.slice none 0 0) (.slice none 0 0) (.slice none 0 0) (.slice none 0 0) (.slice none 0 0)).other (p := ⟨w.heap.size + 2, 0, none⟩) hne3 _).other (p := ⟨w.heap.size + 2, 1, none⟩) hne3 _).ext ((Ext.refl _).drew)).cell rfl, ((((set13_other HXB.out hne2 (.int .i64 0) (.int .i64 0) (.int .i64 0) (.int .i64 0) (.int .i64 0) (.int .i64 0) (.int .i64 0) (.int .i64 0) (.slice none 0 0) (.slice none 0 0) (.slice none 0 0) (.slice none 0 0) (.slice none 0 0)).other (p := ⟨w.heap.size + 2, 0, none⟩) hne4 _).other (p := ⟨w.heap.size + 2, 1, none⟩) hne4 _).ext ((Ext.refl _).drew)).cell rfl, ((((set13_other HXB.out hne2 (.int .i64 0) (.int .i64 0) (.int .i64 0) (.int .i64 0) (.int .i64 0) (.int .i64 0) (.int .i64 0) (.int .i64 0) (.slice none 0 0) (.slice none 0 0) (.slice none 0 0) (.slice none 0 0) (.slice none 0 0)).other (p := ⟨w.heap.size + 2, 0, none⟩) hne4 _).other (p := ⟨w.heap.size + 2, 1, none⟩) hne4 _).ext ((Ext.refl _).drew)).cell rfl⟩) (fun hHeld => ?_)
      clear hK K hHeld
      try simp only [Act.put, List.setIfInBounds_toArray, List.set_cons_zero, List.set_cons_succ]
      refine wpAnyH_done (by kernel_rfl) ?_ _
      obtain ⟨GG, k1, k2⟩ := drop_mid (DwF.objD a) HSk.out
      have hZ : Step F w _ _ := (Step.of_ext (F := F) HE6.out).trans HIk.out
      obtain ⟨z1, z2, z3, z4⟩ := fin_all ((DwF.objD a).sep HoF.obj) k1 (hZ.sub k2) HB1.out (fun h => HN1.out (k2 _ h)) HB2.out (fun h => HN2.out (k2 _ h)) h12 HRB.out HEB.out (.int .i64 0) (.int .i64 0) (.int .i64 0) (.int .i64 0) (.int .i64 0) (.int .i64 0) (.int .i64 0) (.int .i64 0) (.slice none 0 0) (.slice none 0 0) (.slice none 0 0) (.slice none 0 0) (.slice none 0 0) (.int .i64 0) (.slice none 0 0)
      have z1 := Obj.ext ((DwF.objD a).sep HoF.obj) z1 ((Ext.refl _).drew)
      have z2 := z2.ext ((Ext.refl _).drew)
      have z3 := z3.ext ((Ext.refl _).drew)
      have z4 := z4.ext ((Ext.refl _).drew)
      clear ey0 ey1 yf0 yf1 k1 hZ
      generalize World.drew _ = wz at z1 z2 z3 z4 ⊢
      obtain ⟨⟨g0, g1, g2, g3, g4, g5, g6, g7, g8, g9, g10, g11, g12⟩, -⟩ := sq_cells z3
      have ey0 := z4.cell (i := 0) (v := .int .i64 0) rfl
      have ey1 := z4.cell (i := 1) (v := .slice none 0 0) rfl
      have HZ1 := Lib.hid z1
      have HZ2 := Lib.hid z2
      clear z1 z2 z3 z4
      go_wp2
      exact bodyPost_ret (v := .tuple #[.agg #[.int .i64 0, .int .i64 0, .int .i64 0, .int .i64 0, .int .i64 0, .int .i64 0, .int .i64 0, .int .i64 0, .slice none 0 0, .slice none 0 0, .slice none 0 0, .slice none 0 0, .slice none 0 0], .agg #[.int .i64 0, .slice none 0 0]]) (by simp [results, Tryz.results12, go_sem, g0, g1, g2, g3, g4, g5, g6, g7, g8, g9, g10, g11, g12, ey0, ey1]) rfl (RSqR.done (L := nilS) (s0 := nilS) (s1 := nilS) (s2 := nilS) (s3 := nilS) (HSX.out.trans HA.out) HZ1.out HZ2.out (fun W h => ⟨⟨Ints.nil W, Ints.nil W, Ints.nil W, Ints.nil W, Ints.nil W⟩, RErrIs.zero⟩))
    by_cases hkk1 : kk = 1
    · subst hkk1
      have hlv : lvE (xL) 64 = none := (li_L HLI.out (by first | exact .inl hgk | exact .inr hgk))
      obtain ⟨⟨x1, t2⟩, e1⟩ : ∃ r, partM mX t1 (cl15 (gx)) = r := ⟨_, rfl⟩
      obtain ⟨⟨y1, t3⟩, e2⟩ : ∃ r, partM mX t2 (cl15 (gy)) = r := ⟨_, rfl⟩
      have k2 := par_ok mkX HK1.out e1
      have k3 := par_ok mkX k2 e2
      have U1 := Lib.hid (fun G w' (h : (DwF a) w' G t1) => dwpart_any a _  (gx) t1 G w' h HK1.out (by omega))
      have U2 := Lib.hid (fun G w' (h : (DwF a) w' G t2) => dwpart_any a _  (gy) t2 G w' h k2 (by omega))
      obtain ⟨⟨⟨f, ys⟩, t4⟩, e3⟩ : ∃ r, (codP (xL)).run mX t3 = r := ⟨_, rfl⟩
      have U3 := Lib.hid (fun Y G w' (h : (DwF a) w' G t3) (hv : HoF w' Y (fun W => Ints W (.slice aL lL cL) (xL))) (hd : ∀ k, Y k → ¬ G k) => dwcode_any a _ (xL) _ Y t3 G w' h k3 (by omega) hv hd)
      rw [e1] at U1
      rw [e3] at U3
      rw [e2] at U2
      have hcod := cod_two (.inr rfl) hlv e3
      have hrun := mv_run (q := ⟨gk, gm, ga, gb, gc, gd, gx, gy, xL, xs0, xs1, xs2, xs3⟩) e1 e2 e3
      have HRUN := Lib.hid hrun
      have HCOD := Lib.hid hcod
      clear hrun hcod e1 e3 k3 hlv e2 k2
      go_wp2_with fail
      rw [HW8.out]
      clear s0 s1 s2 s3 s4 s5 s6 s7 s8 s9 s10 s11 s12 p0 p1 p2 p3 p4 p5 p6 p7 p8 p9 p10 p11 p12 ec0 ec1
      refine (bp_call HS0.out (fun G hG => U1.out G _ hG)).mono ?_; rintro e w1 ⟨rfl, G1, h1', st1⟩
      have HS1 := Lib.hid h1'
      have HI1 := Lib.hid (HI0.out.trans st1)
      clear h1' st1 HS0 HI0 U1
      obtain ⟨⟨s0, s1, s2, s3, s4, s5, s6, s7, s8, s9, s10, s11, s12⟩, -⟩ := sq_cells (HKP.out _ _ HI1.out).1.get.1.2
      obtain ⟨⟨p0, p1, p2, p3, p4, p5, p6, p7, p8, p9, p10, p11, p12⟩, f0, f1, f2, f3, f4, f5, f6, f7, f8, f9, f10, f11, f12⟩ := sq_cells (bp_p HS1.out).1
      have ec0 := (bp_p HS1.out).2.cell (i := 0) (v := .int .i64 0) rfl
      have ec1 := (bp_p HS1.out).2.cell (i := 1) (v := .slice none 0 0) rfl
      have xf0 := (bp_p HS1.out).2.free (i := 0)
      have xf1 := (bp_p HS1.out).2.free (i := 1)
      have hs := bp_setp (DwF.objD a) HS1.out 6 (.int .i64 x1)
      have HS2 : Hid (Sep (Sep (DwF a) (BpF w7.heap.size (w7.heap.size + 1))) HoF (w1.setCell ⟨w7.heap.size, 6, none⟩ (.int .i64 x1)) _ ((_, (#[.int .i64 1, .int .i64 0, .int .i64 0, .int .i64 0, .int .i64 0, .int .i64 0, .int .i64 x1, .int .i64 0, .slice none 0 0, .slice none 0 0, .slice none 0 0, .slice none 0 0, .slice none 0 0], #[.int .i64 0, .slice none 0 0])), _)) := hs.1
      have HI2 := Lib.hid (HI1.out.trans hs.2)
      clear hs
      go_wp2_with fail
      clear s0 s1 s2 s3 s4 s5 s6 s7 s8 s9 s10 s11 s12 p0 p1 p2 p3 p4 p5 p6 p7 p8 p9 p10 p11 p12 f0 f1 f2 f3 f4 f5 f6 f7 f8 f9 f10 f11 f12 ec0 ec1 xf0 xf1
      generalize w1.setCell _ _ = w2 at HS2 HI2 ⊢
      refine (bp_call HS2.out (fun G hG => U2.out G _ hG)).mono ?_; rintro e w3 ⟨rfl, G3, h3', st3⟩
      have HS3 := Lib.hid h3'
      have HI3 := Lib.hid (HI2.out.trans st3)
      clear h3' st3 HS1 HI1 HS2 HI2 U2
      obtain ⟨⟨s0, s1, s2, s3, s4, s5, s6, s7, s8, s9, s10, s11, s12⟩, -⟩ := sq_cells (HKP.out _ _ HI3.out).1.get.1.2
      obtain ⟨⟨p0, p1, p2, p3, p4, p5, p6, p7, p8, p9, p10, p11, p12⟩, f0, f1, f2, f3, f4, f5, f6, f7, f8, f9, f10, f11, f12⟩ := sq_cells (bp_p HS3.out).1
      have ec0 := (bp_p HS3.out).2.cell (i := 0) (v := .int .i64 0) rfl
      have ec1 := (bp_p HS3.out).2.cell (i := 1) (v := .slice none 0 0) rfl
      have xf0 := (bp_p HS3.out).2.free (i := 0)
      have xf1 := (bp_p HS3.out).2.free (i := 1)
      have hs := bp_setp (DwF.objD a) HS3.out 7 (.int .i64 y1)
      have HS4 : Hid (Sep (Sep (DwF a) (BpF w7.heap.size (w7.heap.size + 1))) HoF (w3.setCell ⟨w7.heap.size, 7, none⟩ (.int .i64 y1)) _ ((_, (#[.int .i64 1, .int .i64 0, .int .i64 0, .int .i64 0, .int .i64 0, .int .i64 0, .int .i64 x1, .int .i64 y1, .slice none 0 0, .slice none 0 0, .slice none 0 0, .slice none 0 0, .slice none 0 0], #[.int .i64 0, .slice none 0 0])), _)) := hs.1
      have HI4 := Lib.hid (HI3.out.trans hs.2)
      clear hs
      go_wp2_with fail
      clear s0 s1 s2 s3 s4 s5 s6 s7 s8 s9 s10 s11 s12 p0 p1 p2 p3 p4 p5 p6 p7 p8 p9 p10 p11 p12 f0 f1 f2 f3 f4 f5 f6 f7 f8 f9 f10 f11 f12 ec0 ec1 xf0 xf1
      generalize w3.setCell _ _ = w4 at HS4 HI4 ⊢
      obtain ⟨kx, kd⟩ := HKP.out _ _ HI4.out
      refine (sep_lqF (BpF.obj w7.heap.size (w7.heap.size + 1)) HS4.out (fun G hG hs => U3.out _ G _ hG (kx.imp (fun W h => h.2.1)) (fun k hk hg => kd k hk (hs k hg)))).mono ?_; rintro e w5 ⟨t, P, G5, ⟨u, c, ra, rn, rk, rfl, hp⟩, h5, st5⟩
      obtain ⟨rfl, rfl⟩ := Prod.mk.inj hp
      have HS5 := Lib.hid h5
      have HI5 := Lib.hid (HI4.out.trans st5)
      obtain ⟨au, lu, cu, rfl⟩ := (bp_has h5).2.1.slf
      have hx5 := (bp_has h5).2.2
      clear h5 st5 kx kd hp HS4 HI4
      rcases HCOD.out with hf | ⟨iq, hf⟩
      · subst hf
        obtain ⟨rfl, hsl⟩ := hx5
        obtain ⟨rfl, rfl, rfl⟩ := by simpa using hsl
        obtain ⟨⟨s0, s1, s2, s3, s4, s5, s6, s7, s8, s9, s10, s11, s12⟩, -⟩ := sq_cells (HKP.out _ _ HI5.out).1.get.1.2
        obtain ⟨⟨p0, p1, p2, p3, p4, p5, p6, p7, p8, p9, p10, p11, p12⟩, f0, f1, f2, f3, f4, f5, f6, f7, f8, f9, f10, f11, f12⟩ := sq_cells (bp_p HS5.out).1
        have ec0 := (bp_p HS5.out).2.cell (i := 0) (v := .int .i64 0) rfl
        have ec1 := (bp_p HS5.out).2.cell (i := 1) (v := .slice none 0 0) rfl
        have xf0 := (bp_p HS5.out).2.free (i := 0)
        have xf1 := (bp_p HS5.out).2.free (i := 1)
        have hs := bp_setp (DwF.objD a) HS5.out 8 (.slice au lu cu)
        have HS6 : Hid (Sep (Sep (DwF a) (BpF w7.heap.size (w7.heap.size + 1))) HoF (w5.setCell ⟨w7.heap.size, 8, none⟩ (.slice au lu cu)) _ ((_, (#[.int .i64 1, .int .i64 0, .int .i64 0, .int .i64 0, .int .i64 0, .int .i64 0, .int .i64 x1, .int .i64 y1, .slice au lu cu, .slice none 0 0, .slice none 0 0, .slice none 0 0, .slice none 0 0], #[.int .i64 0, .slice none 0 0])), _)) := hs.1
        have HI6 := Lib.hid (HI5.out.trans hs.2)
        clear hs
        have hs := bp_sete (DwF.objD a) HS6.out 0 (.int .i64 0)
        have HS7 : Hid (Sep (Sep (DwF a) (BpF w7.heap.size (w7.heap.size + 1))) HoF ((w5.setCell ⟨w7.heap.size, 8, none⟩ (.slice au lu cu)).setCell ⟨w7.heap.size + 1, 0, none⟩ (.int .i64 0)) _ ((_, (#[.int .i64 1, .int .i64 0, .int .i64 0, .int .i64 0, .int .i64 0, .int .i64 0, .int .i64 x1, .int .i64 y1, .slice au lu cu, .slice none 0 0, .slice none 0 0, .slice none 0 0, .slice none 0 0], #[.int .i64 0, .slice none 0 0])), _)) := hs.1
        have HI7 := Lib.hid (HI6.out.trans hs.2)
        clear hs
        have hs := bp_sete (DwF.objD a) HS7.out 1 (.slice none 0 0)
        have HS8 : Hid (Sep (Sep (DwF a) (BpF w7.heap.size (w7.heap.size + 1))) HoF (((w5.setCell ⟨w7.heap.size, 8, none⟩ (.slice au lu cu)).setCell ⟨w7.heap.size + 1, 0, none⟩ (.int .i64 0)).setCell ⟨w7.heap.size + 1, 1, none⟩ (.slice none 0 0)) _ ((_, (#[.int .i64 1, .int .i64 0, .int .i64 0, .int .i64 0, .int .i64 0, .int .i64 0, .int .i64 x1, .int .i64 y1, .slice au lu cu, .slice none 0 0, .slice none 0 0, .slice none 0 0, .slice none 0 0], #[.int .i64 0, .slice none 0 0])), _)) := hs.1
        have HI8 := Lib.hid (HI7.out.trans hs.2)
        clear hs
        go_wp2_with fail
        refine wp_loop_rounds 2 ?_
        rw [rounds_succ]
        go_wp2_with fail
        clear s0 s1 s2 s3 s4 s5 s6 s7 s8 s9 s10 s11 s12 p0 p1 p2 p3 p4 p5 p6 p7 p8 p9 p10 p11 p12 f0 f1 f2 f3 f4 f5 f6 f7 f8 f9 f10 f11 f12 ec0 ec1 xf0 xf1
        generalize World.setCell _ _ _ = w9 at HS8 HI8 ⊢
        clear HS5 HS6 HS7 HI5 HI6 HI7
        have HA := Lib.hid (sq_run_ok HEK.out (HRUN.out.2 (by first | rfl | trivial)))
        refine (ok_any _ _ _).mono ?_; rintro e wk ⟨rfl, hxk⟩
        have HSk := Lib.hid (Obj.ext (((DwF.objD a).sep (BpF.obj w7.heap.size (w7.heap.size + 1))).sep HoF.obj) HS8.out hxk)
        have HIk := Lib.hid (HI8.out.ext hxk)
        clear hxk HS8 HI8
        go_wp2_with fail
        obtain ⟨qa, qd⟩ := HKP.out _ _ HIk.out
        have HRB := Lib.hid qa.get.1.1.1
        have HEB := Lib.hid qa.get.1.1.2
        have HN1 := Lib.hid (qd (w.heap.size + 1) (.inl (.inl (.inl rfl))))
        have HN2 := Lib.hid (qd (w.heap.size + 2) (.inl (.inl (.inr rfl))))
        clear qa qd
        have HPB := Lib.hid (bp_p HSk.out).1
        have HXB := Lib.hid (bp_p HSk.out).2
        have hne1 : w.heap.size + 1 ≠ w7.heap.size := fun e => HN1.out (by rw [e]; exact bp_in HSk.out (.inl rfl))
        have hne2 : w.heap.size + 1 ≠ w7.heap.size + 1 := fun e => HN1.out (by rw [e]; exact bp_in HSk.out (.inr rfl))
        have hne3 : w.heap.size + 2 ≠ w7.heap.size := fun e => HN2.out (by rw [e]; exact bp_in HSk.out (.inl rfl))
        have hne4 : w.heap.size + 2 ≠ w7.heap.size + 1 := fun e => HN2.out (by rw [e]; exact bp_in HSk.out (.inr rfl))
        refine wp_region_held_drew (S := fun w' => w'.cell? ⟨w7.heap.size, 0, none⟩ = some (.int .i64 1) ∧ w'.cell? ⟨w7.heap.size, 1, none⟩ = some (.int .i64 0) ∧ w'.cell? ⟨w7.heap.size, 2, none⟩ = some (.int .i64 0) ∧ w'.cell? ⟨w7.heap.size, 3, none⟩ = some (.int .i64 0) ∧ w'.cell? ⟨w7.heap.size, 4, none⟩ = some (.int .i64 0) ∧ w'.cell? ⟨w7.heap.size, 5, none⟩ = some (.int .i64 0) ∧ w'.cell? ⟨w7.heap.size, 6, none⟩ = some (.int .i64 x1) ∧ w'.cell? ⟨w7.heap.size, 7, none⟩ = some (.int .i64 y1) ∧ w'.cell? ⟨w7.heap.size, 8, none⟩ = some (.slice au lu cu) ∧ w'.cell? ⟨w7.heap.size, 9, none⟩ = some (.slice none 0 0) ∧ w'.cell? ⟨w7.heap.size, 10, none⟩ = some (.slice none 0 0) ∧ w'.cell? ⟨w7.heap.size, 11, none⟩ = some (.slice none 0 0) ∧ w'.cell? ⟨w7.heap.size, 12, none⟩ = some (.slice none 0 0) ∧ w'.cell? ⟨w7.heap.size + 1, 0, none⟩ = some (.int .i64 0) ∧ w'.cell? ⟨w7.heap.size + 1, 1, none⟩ = some (.slice none 0 0)) (by kernel_rfl) (⟨(HPB.out.ext ((Ext.refl _).drew)).cell rfl, (HPB.out.ext ((Ext.refl _).drew)).cell rfl, (HPB.out.ext ((Ext.refl _).drew)).cell rfl, (HPB.out.ext ((Ext.refl _).drew)).cell rfl, (HPB.out.ext ((Ext.refl _).drew)).cell rfl, (HPB.out.ext ((Ext.refl _).drew)).cell rfl, (HPB.out.ext ((Ext.refl _).drew)).cell rfl, (HPB.out.ext ((Ext.refl _).drew)).cell rfl, (HPB.out.ext ((Ext.refl _).drew)).cell rfl, (HPB.out.ext ((Ext.refl _).drew)).cell rfl, (HPB.out.ext ((Ext.refl _).drew)).cell rfl, (HPB.out.ext ((Ext.refl _).drew)).cell rfl, (HPB.out.ext ((Ext.refl _).drew)).cell rfl, (HXB.out.ext ((Ext.refl _).drew)).cell rfl, (HXB.out.ext ((Ext.refl _).drew)).cell rfl⟩) (fun hHeld => ?_)
        refine wpAnyH_take (i := 0) (oi := { dst := some 125, op := Op.load 42 (Operand.tmp 10), type := 42, pos := "ref.go:147", after := #[], guard := none }) (v := ?_) rfl (by kernel_rfl) (by kernel_rfl) (by kernel_rfl) (fun _ _ _ h => h) (Or.inl ⟨by rfl, ?_⟩) (by assumption) ?_
        case refine_2 => (intro w hSw; (try dsimp only at hSw); go_simp; (try with_reducible rfl))
        try simp only [Act.put, List.setIfInBounds_toArray, List.set_cons_zero, List.set_cons_succ]
        refine wpAnyH_take (i := 1) (oi := { dst := some 126, op := Op.load 46 (Operand.tmp 11), type := 46, pos := "ref.go:147", after := #[{ on := 2, ground := Ground.gcOnly Departure.lateStores }], guard := none }) (v := ?_) rfl (by kernel_rfl) (by kernel_rfl) (by kernel_rfl) (fun _ _ _ h => h) (Or.inl ⟨by rfl, ?_⟩) (by assumption) ?_
        case refine_2 => (intro w hSw; (try dsimp only at hSw); go_simp; (try with_reducible rfl))
        try simp only [Act.put, List.setIfInBounds_toArray, List.set_cons_zero, List.set_cons_succ]
        obtain ⟨⟨e0, e1, e2, e3, e4, e5, e6, e7, e8, e9, e10, e11, e12⟩, f0, f1, f2, f3, f4, f5, f6, f7, f8, f9, f10, f11, f12⟩ := sq_cells HRB.out
        refine wpAnyH_ready (rs := [2]) (by kernel_rfl) (by simp) ?_
        refine AllReadyH.cons (o := { dst := none, op := Op.store 42 (Operand.tmp 6) (Operand.tmp 125), type := 0, pos := "ref.go:147", after := #[{ on := 0, ground := Ground.data }, { on := 0, ground := Ground.phase }, { on := 1, ground := Ground.textOnly Departure.lateStores }], guard := none }) rfl (fun K hK => ?_) AllReadyH.nil
        go_simp
        refine hK.out _ _ (⟨((set13_other HPB.out hne1 (.int .i64 1) (.int .i64 0) (.int .i64 0) (.int .i64 0) (.int .i64 0) (.int .i64 0) (.int .i64 x1) (.int .i64 y1) (.slice au lu cu) (.slice none 0 0) (.slice none 0 0) (.slice none 0 0) (.slice none 0 0)).ext ((Ext.refl _).drew)).cell rfl, ((set13_other HPB.out hne1 (.int .i64 1) (.int .i64 0) (.int .i64 0) (.int .i64 0) (.int .i64 0) (.int .i64 0) (.int .i64 x1) (.int .i64 y1) (.slice au lu cu) (.slice none 0 0) (.slice none 0 0) (.slice none 0 0) (.slice none 0 0)).ext ((Ext.refl _).drew)).cell rfl, ((set13_other HPB.out hne1 (.int .i64 1) (.int .i64 0) (.int .i64 0) (.int .i64 0) (.int .i64 0) (.int .i64 0) (.int .i64 x1) (.int .i64 y1) (.slice au lu cu) (.slice none 0 0) (.slice none 0 0) (.slice none 0 0) (.slice none 0 0)).ext ((Ext.refl _).drew)).cell rfl, ((set13_other HPB.out hne1 (.int .i64 1) (.int .i64 0) (.int .i64 0) (.int .i64 0) (.int .i64 0) (.int .i64 0) (.int .i64 x1) (.int .i64 y1) (.slice au lu cu) (.slice none 0 0) (.slice none 0 0) (.slice none 0 0) (.slice none 0 0)).ext ((Ext.refl _).drew)).cell rfl, ((set13_other HPB.out hne1 (.int .i64 1) (.int .i64 0) (.int .i64 0) (.int .i64 0) (.int .i64 0) (.int .i64 0) (.int .i64 x1) (.int .i64 y1) (.slice au lu cu) (.slice none 0 0) (.slice none 0 0) (.slice none 0 0) (.slice none 0 0)).ext ((Ext.refl _).drew)).cell rfl, ((set13_other HPB.out hne1 (.int .i64 1) (.int .i64 0) (.int .i64 0) (.int .i64 0) (.int .i64 0) (.int .i64 0) (.int .i64 x1) (.int .i64 y1) (.slice au lu cu) (.slice none 0 0) (.slice none 0 0) (.slice none 0 0) (.slice none 0 0)).ext ((Ext.refl _).drew)).cell rfl, ((set13_other HPB.out hne1 (.int .i64 1) (.int .i64 0) (.int .i64 0) (.int .i64 0) (.int .i64 0) (.int .i64 0) (.int .i64 x1) (.int .i64 y1) (.slice au lu cu) (.slice none 0 0) (.slice none 0 0) (.slice none 0 0) (.slice none 0 0)).ext ((Ext.refl _).drew)).cell rfl, ((set13_other HPB.out hne1 (.int .i64 1) (.int .i64 0) (.int .i64 0) (.int .i64 0) (.int .i64 0) (.int .i64 0) (.int .i64 x1) (.int .i64 y1) (.slice au lu cu) (.slice none 0 0) (.slice none 0 0) (.slice none 0 0) (.slice none 0 0)).ext ((Ext.refl _).drew)).cell rfl, ((set13_other HPB.out hne1 (.int .i64 1) (.int .i64 0) (.int .i64 0) (.int .i64 0) (.int .i64 0) (.int .i64 0) (.int .i64 x1) (.int .i64 y1) (.slice au lu cu) (.slice none 0 0) (.slice none 0 0) (.slice none 0 0) (.slice none 0 0)).ext ((Ext.refl _).drew)).cell rfl, ((set13_other HPB.out hne1 (.int .i64 1) (.int .i64 0) (.int .i64 0) (.int .i64 0) (.int .i64 0) (.int .i64 0) (.int .i64 x1) (.int .i64 y1) (.slice au lu cu) (.slice none 0 0) (.slice none 0 0) (.slice none 0 0) (.slice none 0 0)).ext ((Ext.refl _).drew)).cell rfl, ((set13_other HPB.out hne1 (.int .i64 1) (.int .i64 0) (.int .i64 0) (.int .i64 0) (.int .i64 0) (.int .i64 0) (.int .i64 x1) (.int .i64 y1) (.slice au lu cu) (.slice none 0 0) (.slice none 0 0) (.slice none 0 0) (.slice none 0 0)).ext ((Ext.refl _).drew)).cell rfl, ((set13_other HPB.out hne1 (.int .i64 1) (.int .i64 0) (.int .i64 0) (.int .i64 0) (.int .i64 0) (.int .i64 0) (.int .i64 x1) (.int .i64 y1) (.slice au lu cu) (.slice none 0 0) (.slice none 0 0) (.slice none 0 0) (.slice none 0 0)).ext ((Ext.refl _).drew)).cell rfl, ((set13_other HPB.out hne1 (.int .i64 1) (.int .i64 0) (.int .i64 0) (.int .i64 0) (.int .i64 0) (.int .i64 0) (.int .i64 x1) (.int .i64 y1) (.slice au lu cu) (.slice none 0 0) (.slice none 0 0) (.slice none 0 0) (.slice none 0 0)).ext ((Ext.refl _).drew)).cell rfl, ((set13_other HXB.out hne2 (.int .i64 1) (.int .i64 0) (.int .i64 0) (.int .i64 0) (.int .i64 0) (.int .i64 0) (.int .i64 x1) (.int .i64 y1) (.slice au lu cu) (.slice none 0 0) (.slice none 0 0) (.slice none 0 0) (.slice none 0 0)).ext ((Ext.refl _).drew)).cell rfl, ((set13_other HXB.out hne2 (.int .i64 1) (.int .i64 0) (.int .i64 0) (.int .i64 0) (.int .i64 0) (.int .i64 0) (.int .i64 x1) (.int .i64 y1) (.slice au lu cu) (.slice none 0 0) (.slice none 0 0) (.slice none 0 0) (.slice none 0 0)).ext ((Ext.refl _).drew)).cell rfl⟩) (fun hHeld => ?_)
        clear hK K
        try simp only [Act.put, List.setIfInBounds_toArray, List.set_cons_zero, List.set_cons_succ]
        have ey0 := (set13_other HEB.out h12 (.int .i64 1) (.int .i64 0) (.int .i64 0) (.int .i64 0) (.int .i64 0) (.int .i64 0) (.int .i64 x1) (.int .i64 y1) (.slice au lu cu) (.slice none 0 0) (.slice none 0 0) (.slice none 0 0) (.slice none 0 0)).cell (i := 0) (v := .int .i64 0) rfl
        have ey1 := (set13_other HEB.out h12 (.int .i64 1) (.int .i64 0) (.int .i64 0) (.int .i64 0) (.int .i64 0) (.int .i64 0) (.int .i64 x1) (.int .i64 y1) (.slice au lu cu) (.slice none 0 0) (.slice none 0 0) (.slice none 0 0) (.slice none 0 0)).cell (i := 1) (v := .slice none 0 0) rfl
        have yf0 := (set13_other HEB.out h12 (.int .i64 1) (.int .i64 0) (.int .i64 0) (.int .i64 0) (.int .i64 0) (.int .i64 0) (.int .i64 x1) (.int .i64 y1) (.slice au lu cu) (.slice none 0 0) (.slice none 0 0) (.slice none 0 0) (.slice none 0 0)).free (i := 0)
        have yf1 := (set13_other HEB.out h12 (.int .i64 1) (.int .i64 0) (.int .i64 0) (.int .i64 0) (.int .i64 0) (.int .i64 0) (.int .i64 x1) (.int .i64 y1) (.slice au lu cu) (.slice none 0 0) (.slice none 0 0) (.slice none 0 0) (.slice none 0 0)).free (i := 1)
        clear e0 e1 e2 e3 e4 e5 e6 e7 e8 e9 e10 e11 e12 f0 f1 f2 f3 f4 f5 f6 f7 f8 f9 f10 f11 f12
        refine wpAnyH_ready (rs := [3]) (by kernel_rfl) (by simp) ?_
        refine AllReadyH.cons (o := { dst := none, op := Op.store 46 (Operand.tmp 7) (Operand.tmp 126), type := 0, pos := "ref.go:147", after := #[{ on := 1, ground := Ground.data }, { on := 2, ground := Ground.chain }, { on := 0, ground := Ground.phase }, { on := 1, ground := Ground.phase }, { on := 2, ground := Ground.phase }], guard := none }) rfl (fun K hK => ?_) AllReadyH.nil
        go_simp
        refine hK.out _ _ (⟨((((set13_other HPB.out hne1 (.int .i64 1) (.int .i64 0) (.int .i64 0) (.int .i64 0) (.int .i64 0) (.int .i64 0) (.int .i64 x1) (.int .i64 y1) (.slice au lu cu) (.slice none 0 0) (.slice none 0 0) (.slice none 0 0) (.slice none 0 0)).other (p := ⟨w.heap.size + 2, 0, none⟩) hne3 _).other (p := ⟨w.heap.size + 2, 1, none⟩) hne3 _).ext ((Ext.refl _).drew)).cell rfl, ((((set13_other HPB.out hne1 (.int .i64 1) (.int .i64 0) (.int .i64 0) (.int .i64 0) (.int .i64 0) (.int .i64 0) (.int .i64 x1) (.int .i64 y1) (.slice au lu cu) (.slice none 0 0) (.slice none 0 0) (.slice none 0 0) (.slice none 0 0)).other (p := ⟨w.heap.size + 2, 0, none⟩) hne3 _).other (p := ⟨w.heap.size + 2, 1, none⟩) hne3 _).ext ((Ext.refl _).drew)).cell rfl, ((((set13_other HPB.out hne1 (.int .i64 1) (.int .i64 0) (.int .i64 0) (.int .i64 0) (.int .i64 0) (.int .i64 0) (.int .i64 x1) (.int .i64 y1) (.slice au lu cu) (.slice none 0 0) (.slice none 0 0) (.slice none 0 0) (.slice none 0 0)).other (p := ⟨w.heap.size + 2, 0, none⟩) hne3 _).other (p := ⟨w.heap.size + 2, 1, none⟩) hne3 _).ext ((Ext.refl _).drew)).cell rfl, ((((set13_other HPB.out hne1 (.int .i64 1) (.int .i64 0) (.int .i64 0) (.int .i64 0) (.int .i64 0) (.int .i64 0) (.int .i64 x1) (.int .i64 y1) (.slice au lu cu) (.slice none 0 0) (.slice none 0 0) (.slice none 0 0) (.slice none 0 0)).other (p := ⟨w.heap.size + 2, 0, none⟩) hne3 _).other (p := ⟨w.heap.size + 2, 1, none⟩) hne3 _).ext ((Ext.refl _).drew)).cell rfl, ((((set13_other HPB.out hne1 (.int .i64 1) (.int .i64 0) (.int .i64 0) (.int .i64 0) (.int .i64 0) (.int .i64 0) (.int .i64 x1) (.int .i64 y1) (.slice au lu cu) (.slice none 0 0) (.slice none 0 0) (.slice none 0 0) (.slice none 0 0)).other (p := ⟨w.heap.size + 2, 0, none⟩) hne3 _).other (p := ⟨w.heap.size + 2, 1, none⟩) hne3 _).ext ((Ext.refl _).drew)).cell rfl, ((((set13_other HPB.out hne1 (.int .i64 1) (.int .i64 0) (.int .i64 0) (.int .i64 0) (.int .i64 0) (.int .i64 0) (.int .i64 x1) (.int .i64 y1) (.slice au lu cu) (.slice none 0 0) (.slice none 0 0) (.slice none 0 0) (.slice none 0 0)).other (p := ⟨w.heap.size + 2, 0, none⟩) hne3 _).other (p := ⟨w.heap.size + 2, 1, none⟩) hne3 _).ext ((Ext.refl _).drew)).cell rfl, ((((set13_other HPB.out hne1 (.int .i64 1) (.int .i64 0) (.int .i64 0) (.int .i64 0) (.int .i64 0) (.int .i64 0) (.int .i64 x1) (.int .i64 y1) (.slice au lu cu) (.slice none 0 0) (.slice none 0 0) (.slice none 0 0) (.slice none 0 0)).other (p := ⟨w.heap.size + 2, 0, none⟩) hne3 _).other (p := ⟨w.heap.size + 2, 1, none⟩) hne3 _).ext ((Ext.refl _).drew)).cell rfl, ((((set13_other HPB.out hne1 (.int .i64 1) (.int .i64 0) (.int .i64 0) (.int .i64 0) (.int .i64 0) (.int .i64 0) (.int .i64 x1) (.int .i64 y1) (.slice au lu cu) (.slice none 0 0) (.slice none 0 0) (.slice none 0 0) (.slice none 0 0)).other (p := ⟨w.heap.size + 2, 0, none⟩) hne3 _).other (p := ⟨w.heap.size + 2, 1, none⟩) hne3 _).ext ((Ext.refl _).drew)).cell rfl, ((((set13_other HPB.out hne1 (.int .i64 1) (.int .i64 0) (.int .i64 0) (.int .i64 0) (.int .i64 0) (.int .i64 0) (.int .i64 x1) (.int .i64 y1) (.slice au lu cu) (.slice none 0 0) (.slice none 0 0) (.slice none 0 0) (.slice none 0 0)).other (p := ⟨w.heap.size + 2, 0, none⟩) hne3 _).other (p := ⟨w.heap.size + 2, 1, none⟩) hne3 _).ext ((Ext.refl _).drew)).cell rfl, ((((set13_other HPB.out hne1 (.int .i64 1) (.int .i64 0) (.int .i64 0) (.int .i64 0) (.int .i64 0) (.int .i64 0) (.int .i64 x1) (.int .i64 y1) (.slice au lu cu) (.slice none 0 0) (.slice none 0 0) (.slice none 0 0) (.slice none 0 0)).other (p := ⟨w.heap.size + 2, 0, none⟩) hne3 _).other (p := ⟨w.heap.size + 2, 1, none⟩) hne3 _).ext ((Ext.refl _).drew)).cell rfl, ((((set13_other HPB.out hne1 (.int .i64 1) (.int .i64 0) (.int .i64 0) (.int .i64 0) (.int .i64 0) (.int .i64 0) (.int .i64 x1) (.int .i64 y1) (.slice au lu cu) (.slice none 0 0) (.slice none 0 0) (.slice none 0 0) (.slice none 0 0)).other (p := ⟨w.heap.size + 2, 0, none⟩) hne3 _).other (p := ⟨w.heap.size + 2, 1, none⟩) hne3 _).ext ((Ext.refl _).drew)).cell rfl, ((((set13_other HPB.out hne1 (.int .i64 1) (.int .i64 0) (.int .i64 0) (.int .i64 0) (.int .i64 0) (.int .i64 0) (.int .i64 x1) (.int .i64 y1) (.slice au lu cu) (.slice none 0 0) (.slice none 0 0) (.slice none 0 0) (.slice none 0 0)).other (p := ⟨w.heap.size + 2, 0, none⟩) hne3 _).other (p := ⟨w.heap.size + 2, 1, none⟩) hne3 _).ext ((Ext.refl _).drew)).cell rfl, ((((set13_other HPB.out hne1 (.int .i64 1) (.int .i64 0) (.int .i64 0) (.int .i64 0) (.int .i64 0) (.int .i64 0) (.int .i64 x1) (.int .i64 y1) (.slice au lu cu) (.slice none 0 0) (.slice none 0 0) (.slice none 0 0) (.slice none 0 0)).other (p := ⟨w.heap.size + 2, 0, none⟩) hne3 _).other (p := ⟨w.heap.size + 2, 1, none⟩) hne3 _).ext ((Ext.refl _).drew)).cell rfl, ((((set13_other HXB.out hne2 (.int .i64 1) (.int .i64 0) (.int .i64 0) (.int .i64 0) (.int .i64 0) (.int .i64 0) (.int .i64 x1) (.int .i64 y1) (.slice au lu cu) (.slice none 0 0) (.slice none 0 0) (.slice none 0 0) (.slice none 0 0)).other (p := ⟨w.heap.size + 2, 0, none⟩) hne4 _).other (p := ⟨w.heap.size + 2, 1, none⟩) hne4 _).ext ((Ext.refl _).drew)).cell rfl, ((((set13_other HXB.out hne2 (.int .i64 1) (.int .i64 0) (.int .i64 0) (.int .i64 0) (.int .i64 0) (.int .i64 0) (.int .i64 x1) (.int .i64 y1) (.slice au lu cu) (.slice none 0 0) (.slice none 0 0) (.slice none 0 0) (.slice none 0 0)).other (p := ⟨w.heap.size + 2, 0, none⟩) hne4 _).other (p := ⟨w.heap.size + 2, 1, none⟩) hne4 _).ext ((Ext.refl _).drew)).cell rfl⟩) (fun hHeld => ?_)
        clear hK K hHeld
        try simp only [Act.put, List.setIfInBounds_toArray, List.set_cons_zero, List.set_cons_succ]
        refine wpAnyH_done (by kernel_rfl) ?_ _
        obtain ⟨GG, k1, k2⟩ := drop_mid (DwF.objD a) HSk.out
        have hZ : Step F w _ _ := (Step.of_ext (F := F) HE6.out).trans HIk.out
        obtain ⟨z1, z2, z3, z4⟩ := fin_all ((DwF.objD a).sep HoF.obj) k1 (hZ.sub k2) HB1.out (fun h => HN1.out (k2 _ h)) HB2.out (fun h => HN2.out (k2 _ h)) h12 HRB.out HEB.out (.int .i64 1) (.int .i64 0) (.int .i64 0) (.int .i64 0) (.int .i64 0) (.int .i64 0) (.int .i64 x1) (.int .i64 y1) (.slice au lu cu) (.slice none 0 0) (.slice none 0 0) (.slice none 0 0) (.slice none 0 0) (.int .i64 0) (.slice none 0 0)
        have z1 := Obj.ext ((DwF.objD a).sep HoF.obj) z1 ((Ext.refl _).drew)
        have z2 := z2.ext ((Ext.refl _).drew)
        have z3 := z3.ext ((Ext.refl _).drew)
        have z4 := z4.ext ((Ext.refl _).drew)
        clear ey0 ey1 yf0 yf1 k1 hZ
        generalize World.drew _ = wz at z1 z2 z3 z4 ⊢
        obtain ⟨⟨g0, g1, g2, g3, g4, g5, g6, g7, g8, g9, g10, g11, g12⟩, -⟩ := sq_cells z3
        have ey0 := z4.cell (i := 0) (v := .int .i64 0) rfl
        have ey1 := z4.cell (i := 1) (v := .slice none 0 0) rfl
        have HZ1 := Lib.hid z1
        have HZ2 := Lib.hid z2
        clear z1 z2 z3 z4
        go_wp2
        exact bodyPost_ret (v := .tuple #[.agg #[.int .i64 1, .int .i64 0, .int .i64 0, .int .i64 0, .int .i64 0, .int .i64 0, .int .i64 x1, .int .i64 y1, .slice au lu cu, .slice none 0 0, .slice none 0 0, .slice none 0 0, .slice none 0 0], .agg #[.int .i64 0, .slice none 0 0]]) (by simp [results, Tryz.results12, go_sem, g0, g1, g2, g3, g4, g5, g6, g7, g8, g9, g10, g11, g12, ey0, ey1]) rfl (RSqR.done (L := (.slice au lu cu)) (s0 := nilS) (s1 := nilS) (s2 := nilS) (s3 := nilS) (HSX.out.trans HA.out) HZ1.out HZ2.out (fun W h => ⟨⟨h.2.1, Ints.nil W, Ints.nil W, Ints.nil W, Ints.nil W⟩, RErrIs.zero⟩))
      · subst hf
        obtain ⟨hc5, -, -⟩ := hx5
        obtain rfl : c = 3 := hc5
        obtain ⟨⟨s0, s1, s2, s3, s4, s5, s6, s7, s8, s9, s10, s11, s12⟩, -⟩ := sq_cells (HKP.out _ _ HI5.out).1.get.1.2
        obtain ⟨⟨p0, p1, p2, p3, p4, p5, p6, p7, p8, p9, p10, p11, p12⟩, f0, f1, f2, f3, f4, f5, f6, f7, f8, f9, f10, f11, f12⟩ := sq_cells (bp_p HS5.out).1
        have ec0 := (bp_p HS5.out).2.cell (i := 0) (v := .int .i64 0) rfl
        have ec1 := (bp_p HS5.out).2.cell (i := 1) (v := .slice none 0 0) rfl
        have xf0 := (bp_p HS5.out).2.free (i := 0)
        have xf1 := (bp_p HS5.out).2.free (i := 1)
        have hs := bp_setp (DwF.objD a) HS5.out 8 (.slice au lu cu)
        have HS6 : Hid (Sep (Sep (DwF a) (BpF w7.heap.size (w7.heap.size + 1))) HoF (w5.setCell ⟨w7.heap.size, 8, none⟩ (.slice au lu cu)) _ ((_, (#[.int .i64 1, .int .i64 0, .int .i64 0, .int .i64 0, .int .i64 0, .int .i64 0, .int .i64 x1, .int .i64 y1, .slice au lu cu, .slice none 0 0, .slice none 0 0, .slice none 0 0, .slice none 0 0], #[.int .i64 0, .slice none 0 0])), _)) := hs.1
        have HI6 := Lib.hid (HI5.out.trans hs.2)
        clear hs
        have hs := bp_sete (DwF.objD a) HS6.out 0 (.int .i64 3)
        have HS7 : Hid (Sep (Sep (DwF a) (BpF w7.heap.size (w7.heap.size + 1))) HoF ((w5.setCell ⟨w7.heap.size, 8, none⟩ (.slice au lu cu)).setCell ⟨w7.heap.size + 1, 0, none⟩ (.int .i64 3)) _ ((_, (#[.int .i64 1, .int .i64 0, .int .i64 0, .int .i64 0, .int .i64 0, .int .i64 0, .int .i64 x1, .int .i64 y1, .slice au lu cu, .slice none 0 0, .slice none 0 0, .slice none 0 0, .slice none 0 0], #[.int .i64 3, .slice none 0 0])), _)) := hs.1
        have HI7 := Lib.hid (HI6.out.trans hs.2)
        clear hs
        have hs := bp_sete (DwF.objD a) HS7.out 1 (.slice ra rn rk)
        have HS8 : Hid (Sep (Sep (DwF a) (BpF w7.heap.size (w7.heap.size + 1))) HoF (((w5.setCell ⟨w7.heap.size, 8, none⟩ (.slice au lu cu)).setCell ⟨w7.heap.size + 1, 0, none⟩ (.int .i64 3)).setCell ⟨w7.heap.size + 1, 1, none⟩ (.slice ra rn rk)) _ ((_, (#[.int .i64 1, .int .i64 0, .int .i64 0, .int .i64 0, .int .i64 0, .int .i64 0, .int .i64 x1, .int .i64 y1, .slice au lu cu, .slice none 0 0, .slice none 0 0, .slice none 0 0, .slice none 0 0], #[.int .i64 3, .slice ra rn rk])), _)) := hs.1
        have HI8 := Lib.hid (HI7.out.trans hs.2)
        clear hs
        go_wp2_with fail
        refine wp_loop_rounds 2 ?_
        rw [rounds_succ]
        go_wp2_with fail
        clear s0 s1 s2 s3 s4 s5 s6 s7 s8 s9 s10 s11 s12 p0 p1 p2 p3 p4 p5 p6 p7 p8 p9 p10 p11 p12 f0 f1 f2 f3 f4 f5 f6 f7 f8 f9 f10 f11 f12 ec0 ec1 xf0 xf1
        generalize World.setCell _ _ _ = w9 at HS8 HI8 ⊢
        clear HS5 HS6 HS7 HI5 HI6 HI7
        have HA := Lib.hid (sq_run_bad HEK.out (HRUN.out.1 _ (by first | rfl | trivial)))
        refine (ok_any _ _ _).mono ?_; rintro e wk ⟨rfl, hxk⟩
        have HSk := Lib.hid (Obj.ext (((DwF.objD a).sep (BpF.obj w7.heap.size (w7.heap.size + 1))).sep HoF.obj) HS8.out hxk)
        have HIk := Lib.hid (HI8.out.ext hxk)
        clear hxk HS8 HI8
        have pk := (bp_p HSk.out).1.cell (i := 0) (v := .int .i64 1) rfl
        have ec0 := (bp_p HSk.out).2.cell (i := 0) (v := .int .i64 3) rfl
        have ec1 := (bp_p HSk.out).2.cell (i := 1) (v := .slice ra rn rk) rfl
        go_wp2_with fail
        refine (rin_hold synS 1 _ _ _ _ [(coefS, iq)] _ (bp_has HSk.out).2.2 (Nat.le_refl 1)).mono ?_; rintro e wi ⟨ua, un, uk, X, rfl, hxi, hxx, hoi⟩
        clear pk ec0 ec1
        obtain ⟨qa, qd⟩ := HKP.out _ _ HIk.out
        have HRB := Lib.hid (qa.get.1.1.1.ext hxi)
        have HEB := Lib.hid (qa.get.1.1.2.ext hxi)
        have HN1 := Lib.hid (qd (w.heap.size + 1) (.inl (.inl (.inl rfl))))
        have HN2 := Lib.hid (qd (w.heap.size + 2) (.inl (.inl (.inr rfl))))
        have hb1l := qa.get.1.1.1.lt
        have hb2l := qa.get.1.1.2.lt
        clear qa qd
        obtain ⟨GG, k1, k2⟩ := drop_mid (DwF.objD a) HSk.out
        have hZ : Step F w _ _ := (Step.of_ext (F := F) HE6.out).trans HIk.out
        obtain ⟨GN, m1, m2, m3⟩ := bag_addF (DwF.objD a) k1 (hZ.sub k2) hxi hoi hxx
        have n1 : ¬ GN (w.heap.size + 1) := fun h => by rcases m3 _ h with h | h; exact HN1.out (k2 _ h); omega
        have n2 : ¬ GN (w.heap.size + 2) := fun h => by rcases m3 _ h with h | h; exact HN2.out (k2 _ h); omega
        obtain ⟨z1, z2, z3, z4⟩ := fin_all ((DwF.objD a).sep HoF.obj) m1 m2 HB1.out n1 HB2.out n2 h12 HRB.out HEB.out (.int .i64 0) (.int .i64 0) (.int .i64 0) (.int .i64 0) (.int .i64 0) (.int .i64 0) (.int .i64 0) (.int .i64 0) (.slice none 0 0) (.slice none 0 0) (.slice none 0 0) (.slice none 0 0) (.slice none 0 0) (.int .i64 3) (.slice ua un uk)
        have HZ1 := Lib.hid z1
        have HZ2 := Lib.hid z2
        obtain ⟨⟨g0, g1, g2, g3, g4, g5, g6, g7, g8, g9, g10, g11, g12⟩, -⟩ := sq_cells z3
        have ey0 := z4.cell (i := 0) (v := .int .i64 3) rfl
        have ey1 := z4.cell (i := 1) (v := .slice ua un uk) rfl
        clear z1 z2 z3 z4 m1 m2 m3 n1 n2 k1 k2 hZ hxi hoi hxx
        obtain ⟨⟨e0, e1, e2, e3, e4, e5, e6, e7, e8, e9, e10, e11, e12⟩, f0, f1, f2, f3, f4, f5, f6, f7, f8, f9, f10, f11, f12⟩ := sq_cells HRB.out
        have w0' := (set13_other HEB.out h12 (.int .i64 0) (.int .i64 0) (.int .i64 0) (.int .i64 0) (.int .i64 0) (.int .i64 0) (.int .i64 0) (.int .i64 0) (.slice none 0 0) (.slice none 0 0) (.slice none 0 0) (.slice none 0 0) (.slice none 0 0)).cell (i := 0) (v := .int .i64 0) rfl
        have w1' := (set13_other HEB.out h12 (.int .i64 0) (.int .i64 0) (.int .i64 0) (.int .i64 0) (.int .i64 0) (.int .i64 0) (.int .i64 0) (.int .i64 0) (.slice none 0 0) (.slice none 0 0) (.slice none 0 0) (.slice none 0 0) (.slice none 0 0)).cell (i := 1) (v := .slice none 0 0) rfl
        have wf0 := (set13_other HEB.out h12 (.int .i64 0) (.int .i64 0) (.int .i64 0) (.int .i64 0) (.int .i64 0) (.int .i64 0) (.int .i64 0) (.int .i64 0) (.slice none 0 0) (.slice none 0 0) (.slice none 0 0) (.slice none 0 0) (.slice none 0 0)).free (i := 0)
        have wf1 := (set13_other HEB.out h12 (.int .i64 0) (.int .i64 0) (.int .i64 0) (.int .i64 0) (.int .i64 0) (.int .i64 0) (.int .i64 0) (.int .i64 0) (.slice none 0 0) (.slice none 0 0) (.slice none 0 0) (.slice none 0 0) (.slice none 0 0)).free (i := 1)
        go_wp2
        exact bodyPost_ret (v := .tuple #[.agg #[.int .i64 0, .int .i64 0, .int .i64 0, .int .i64 0, .int .i64 0, .int .i64 0, .int .i64 0, .int .i64 0, .slice none 0 0, .slice none 0 0, .slice none 0 0, .slice none 0 0, .slice none 0 0], .agg #[.int .i64 3, .slice ua un uk]]) (by simp [results, Tryz.results12, go_sem, g0, g1, g2, g3, g4, g5, g6, g7, g8, g9, g10, g11, g12, ey0, ey1]) rfl (RSqR.done (q := sq0) (L := nilS) (s0 := nilS) (s1 := nilS) (s2 := nilS) (s3 := nilS) (HSX.out.trans HA.out) HZ1.out HZ2.out (fun W h => ⟨SqIs.nil W 0, h.2⟩))
    by_cases hkk2 : kk = 2
    · subst hkk2
      have hlv : lvE (xL) 64 = none := (li_L HLI.out (by first | exact .inl hgk | exact .inr hgk))
      obtain ⟨⟨x1, t3⟩, e1⟩ : ∃ r, modeM mX t1 (cl3 (gm)) = r := ⟨_, rfl⟩
      have k3 := mod_ok mkX HK1.out e1
      have U1 := Lib.hid (fun G w' (h : (DwF a) w' G t1) => dwmode_any a _  (gm) t1 G w' h HK1.out (by omega))
      obtain ⟨⟨⟨f, ys⟩, t4⟩, e3⟩ : ∃ r, (codP (xL)).run mX t3 = r := ⟨_, rfl⟩
      have U3 := Lib.hid (fun Y G w' (h : (DwF a) w' G t3) (hv : HoF w' Y (fun W => Ints W (.slice aL lL cL) (xL))) (hd : ∀ k, Y k → ¬ G k) => dwcode_any a _ (xL) _ Y t3 G w' h k3 (by omega) hv hd)
      rw [e1] at U1
      rw [e3] at U3
      have hcod := cod_two (.inr rfl) hlv e3
      have hrun := on_run (q := ⟨gk, gm, ga, gb, gc, gd, gx, gy, xL, xs0, xs1, xs2, xs3⟩) e1 e3
      have HRUN := Lib.hid hrun
      have HCOD := Lib.hid hcod
      clear hrun hcod e1 e3 k3 hlv
      go_wp2_with fail
      rw [HW8.out]
      clear s0 s1 s2 s3 s4 s5 s6 s7 s8 s9 s10 s11 s12 p0 p1 p2 p3 p4 p5 p6 p7 p8 p9 p10 p11 p12 ec0 ec1
      refine (bp_call HS0.out (fun G hG => U1.out G _ hG)).mono ?_; rintro e w1 ⟨rfl, G1, h1', st1⟩
      have HS1 := Lib.hid h1'
      have HI1 := Lib.hid (HI0.out.trans st1)
      clear h1' st1 HS0 HI0 U1
      obtain ⟨⟨s0, s1, s2, s3, s4, s5, s6, s7, s8, s9, s10, s11, s12⟩, -⟩ := sq_cells (HKP.out _ _ HI1.out).1.get.1.2
      obtain ⟨⟨p0, p1, p2, p3, p4, p5, p6, p7, p8, p9, p10, p11, p12⟩, f0, f1, f2, f3, f4, f5, f6, f7, f8, f9, f10, f11, f12⟩ := sq_cells (bp_p HS1.out).1
      have ec0 := (bp_p HS1.out).2.cell (i := 0) (v := .int .i64 0) rfl
      have ec1 := (bp_p HS1.out).2.cell (i := 1) (v := .slice none 0 0) rfl
      have xf0 := (bp_p HS1.out).2.free (i := 0)
      have xf1 := (bp_p HS1.out).2.free (i := 1)
      have hs := bp_setp (DwF.objD a) HS1.out 1 (.int .i64 (x1 : Int))
      have HS4 : Hid (Sep (Sep (DwF a) (BpF w7.heap.size (w7.heap.size + 1))) HoF (w1.setCell ⟨w7.heap.size, 1, none⟩ (.int .i64 (x1 : Int))) _ ((_, (#[.int .i64 2, .int .i64 (x1 : Int), .int .i64 0, .int .i64 0, .int .i64 0, .int .i64 0, .int .i64 0, .int .i64 0, .slice none 0 0, .slice none 0 0, .slice none 0 0, .slice none 0 0, .slice none 0 0], #[.int .i64 0, .slice none 0 0])), _)) := hs.1
      have HI4 := Lib.hid (HI1.out.trans hs.2)
      clear hs
      go_wp2_with fail
      clear s0 s1 s2 s3 s4 s5 s6 s7 s8 s9 s10 s11 s12 p0 p1 p2 p3 p4 p5 p6 p7 p8 p9 p10 p11 p12 f0 f1 f2 f3 f4 f5 f6 f7 f8 f9 f10 f11 f12 ec0 ec1 xf0 xf1
      generalize w1.setCell _ _ = w4 at HS4 HI4 ⊢
      obtain ⟨kx, kd⟩ := HKP.out _ _ HI4.out
      refine (sep_lqF (BpF.obj w7.heap.size (w7.heap.size + 1)) HS4.out (fun G hG hs => U3.out _ G _ hG (kx.imp (fun W h => h.2.1)) (fun k hk hg => kd k hk (hs k hg)))).mono ?_; rintro e w5 ⟨t, P, G5, ⟨u, c, ra, rn, rk, rfl, hp⟩, h5, st5⟩
      obtain ⟨rfl, rfl⟩ := Prod.mk.inj hp
      have HS5 := Lib.hid h5
      have HI5 := Lib.hid (HI4.out.trans st5)
      obtain ⟨au, lu, cu, rfl⟩ := (bp_has h5).2.1.slf
      have hx5 := (bp_has h5).2.2
      clear h5 st5 kx kd hp HS4 HI4
      rcases HCOD.out with hf | ⟨iq, hf⟩
      · subst hf
        obtain ⟨rfl, hsl⟩ := hx5
        obtain ⟨rfl, rfl, rfl⟩ := by simpa using hsl
        obtain ⟨⟨s0, s1, s2, s3, s4, s5, s6, s7, s8, s9, s10, s11, s12⟩, -⟩ := sq_cells (HKP.out _ _ HI5.out).1.get.1.2
        obtain ⟨⟨p0, p1, p2, p3, p4, p5, p6, p7, p8, p9, p10, p11, p12⟩, f0, f1, f2, f3, f4, f5, f6, f7, f8, f9, f10, f11, f12⟩ := sq_cells (bp_p HS5.out).1
        have ec0 := (bp_p HS5.out).2.cell (i := 0) (v := .int .i64 0) rfl
        have ec1 := (bp_p HS5.out).2.cell (i := 1) (v := .slice none 0 0) rfl
        have xf0 := (bp_p HS5.out).2.free (i := 0)
        have xf1 := (bp_p HS5.out).2.free (i := 1)
        have hs := bp_setp (DwF.objD a) HS5.out 8 (.slice au lu cu)
        have HS6 : Hid (Sep (Sep (DwF a) (BpF w7.heap.size (w7.heap.size + 1))) HoF (w5.setCell ⟨w7.heap.size, 8, none⟩ (.slice au lu cu)) _ ((_, (#[.int .i64 2, .int .i64 (x1 : Int), .int .i64 0, .int .i64 0, .int .i64 0, .int .i64 0, .int .i64 0, .int .i64 0, .slice au lu cu, .slice none 0 0, .slice none 0 0, .slice none 0 0, .slice none 0 0], #[.int .i64 0, .slice none 0 0])), _)) := hs.1
        have HI6 := Lib.hid (HI5.out.trans hs.2)
        clear hs
        have hs := bp_sete (DwF.objD a) HS6.out 0 (.int .i64 0)
        have HS7 : Hid (Sep (Sep (DwF a) (BpF w7.heap.size (w7.heap.size + 1))) HoF ((w5.setCell ⟨w7.heap.size, 8, none⟩ (.slice au lu cu)).setCell ⟨w7.heap.size + 1, 0, none⟩ (.int .i64 0)) _ ((_, (#[.int .i64 2, .int .i64 (x1 : Int), .int .i64 0, .int .i64 0, .int .i64 0, .int .i64 0, .int .i64 0, .int .i64 0, .slice au lu cu, .slice none 0 0, .slice none 0 0, .slice none 0 0, .slice none 0 0], #[.int .i64 0, .slice none 0 0])), _)) := hs.1
        have HI7 := Lib.hid (HI6.out.trans hs.2)
        clear hs
        have hs := bp_sete (DwF.objD a) HS7.out 1 (.slice none 0 0)
        have HS8 : Hid (Sep (Sep (DwF a) (BpF w7.heap.size (w7.heap.size + 1))) HoF (((w5.setCell ⟨w7.heap.size, 8, none⟩ (.slice au lu cu)).setCell ⟨w7.heap.size + 1, 0, none⟩ (.int .i64 0)).setCell ⟨w7.heap.size + 1, 1, none⟩ (.slice none 0 0)) _ ((_, (#[.int .i64 2, .int .i64 (x1 : Int), .int .i64 0, .int .i64 0, .int .i64 0, .int .i64 0, .int .i64 0, .int .i64 0, .slice au lu cu, .slice none 0 0, .slice none 0 0, .slice none 0 0, .slice none 0 0], #[.int .i64 0, .slice none 0 0])), _)) := hs.1
        have HI8 := Lib.hid (HI7.out.trans hs.2)
        clear hs
        go_wp2_with fail
        refine wp_loop_rounds 2 ?_
        rw [rounds_succ]
        go_wp2_with fail
        clear s0 s1 s2 s3 s4 s5 s6 s7 s8 s9 s10 s11 s12 p0 p1 p2 p3 p4 p5 p6 p7 p8 p9 p10 p11 p12 f0 f1 f2 f3 f4 f5 f6 f7 f8 f9 f10 f11 f12 ec0 ec1 xf0 xf1
        generalize World.setCell _ _ _ = w9 at HS8 HI8 ⊢
        clear HS5 HS6 HS7 HI5 HI6 HI7
        have HA := Lib.hid (sq_run_ok HEK.out (HRUN.out.2 (by first | rfl | trivial)))
        refine (ok_any _ _ _).mono ?_; rintro e wk ⟨rfl, hxk⟩
        have HSk := Lib.hid (Obj.ext (((DwF.objD a).sep (BpF.obj w7.heap.size (w7.heap.size + 1))).sep HoF.obj) HS8.out hxk)
        have HIk := Lib.hid (HI8.out.ext hxk)
        clear hxk HS8 HI8
        go_wp2_with fail
        obtain ⟨qa, qd⟩ := HKP.out _ _ HIk.out
        have HRB := Lib.hid qa.get.1.1.1
        have HEB := Lib.hid qa.get.1.1.2
        have HN1 := Lib.hid (qd (w.heap.size + 1) (.inl (.inl (.inl rfl))))
        have HN2 := Lib.hid (qd (w.heap.size + 2) (.inl (.inl (.inr rfl))))
        clear qa qd
        have HPB := Lib.hid (bp_p HSk.out).1
        have HXB := Lib.hid (bp_p HSk.out).2
        have hne1 : w.heap.size + 1 ≠ w7.heap.size := fun e => HN1.out (by rw [e]; exact bp_in HSk.out (.inl rfl))
        have hne2 : w.heap.size + 1 ≠ w7.heap.size + 1 := fun e => HN1.out (by rw [e]; exact bp_in HSk.out (.inr rfl))
        have hne3 : w.heap.size + 2 ≠ w7.heap.size := fun e => HN2.out (by rw [e]; exact bp_in HSk.out (.inl rfl))
        have hne4 : w.heap.size + 2 ≠ w7.heap.size + 1 := fun e => HN2.out (by rw [e]; exact bp_in HSk.out (.inr rfl))
        refine wp_region_held_drew (S := fun w' => w'.cell? ⟨w7.heap.size, 0, none⟩ = some (.int .i64 2) ∧ w'.cell? ⟨w7.heap.size, 1, none⟩ = some (.int .i64 (x1 : Int)) ∧ w'.cell? ⟨w7.heap.size, 2, none⟩ = some (.int .i64 0) ∧ w'.cell? ⟨w7.heap.size, 3, none⟩ = some (.int .i64 0) ∧ w'.cell? ⟨w7.heap.size, 4, none⟩ = some (.int .i64 0) ∧ w'.cell? ⟨w7.heap.size, 5, none⟩ = some (.int .i64 0) ∧ w'.cell? ⟨w7.heap.size, 6, none⟩ = some (.int .i64 0) ∧ w'.cell? ⟨w7.heap.size, 7, none⟩ = some (.int .i64 0) ∧ w'.cell? ⟨w7.heap.size, 8, none⟩ = some (.slice au lu cu) ∧ w'.cell? ⟨w7.heap.size, 9, none⟩ = some (.slice none 0 0) ∧ w'.cell? ⟨w7.heap.size, 10, none⟩ = some (.slice none 0 0) ∧ w'.cell? ⟨w7.heap.size, 11, none⟩ = some (.slice none 0 0) ∧ w'.cell? ⟨w7.heap.size, 12, none⟩ = some (.slice none 0 0) ∧ w'.cell? ⟨w7.heap.size + 1, 0, none⟩ = some (.int .i64 0) ∧ w'.cell? ⟨w7.heap.size + 1, 1, none⟩ = some (.slice none 0 0)) (by kernel_rfl) (⟨(HPB.out.ext ((Ext.refl _).drew)).cell rfl, (HPB.out.ext ((Ext.refl _).drew)).cell rfl, (HPB.out.ext ((Ext.refl _).drew)).cell rfl, (HPB.out.ext ((Ext.refl _).drew)).cell rfl, (HPB.out.ext ((Ext.refl _).drew)).cell rfl, (HPB.out.ext ((Ext.refl _).drew)).cell rfl, (HPB.out.ext ((Ext.refl _).drew)).cell rfl, (HPB.out.ext ((Ext.refl _).drew)).cell rfl, (HPB.out.ext ((Ext.refl _).drew)).cell rfl, (HPB.out.ext ((Ext.refl _).drew)).cell rfl, (HPB.out.ext ((Ext.refl _).drew)).cell rfl, (HPB.out.ext ((Ext.refl _).drew)).cell rfl, (HPB.out.ext ((Ext.refl _).drew)).cell rfl, (HXB.out.ext ((Ext.refl _).drew)).cell rfl, (HXB.out.ext ((Ext.refl _).drew)).cell rfl⟩) (fun hHeld => ?_)
        refine wpAnyH_take (i := 0) (oi := { dst := some 125, op := Op.load 42 (Operand.tmp 10), type := 42, pos := "ref.go:147", after := #[], guard := none }) (v := ?_) rfl (by kernel_rfl) (by kernel_rfl) (by kernel_rfl) (fun _ _ _ h => h) (Or.inl ⟨by rfl, ?_⟩) (by assumption) ?_
        case refine_2 => (intro w hSw; (try dsimp only at hSw); go_simp; (try with_reducible rfl))
        try simp only [Act.put, List.setIfInBounds_toArray, List.set_cons_zero, List.set_cons_succ]
        refine wpAnyH_take (i := 1) (oi := { dst := some 126, op := Op.load 46 (Operand.tmp 11), type := 46, pos := "ref.go:147", after := #[{ on := 2, ground := Ground.gcOnly Departure.lateStores }], guard := none }) (v := ?_) rfl (by kernel_rfl) (by kernel_rfl) (by kernel_rfl) (fun _ _ _ h => h) (Or.inl ⟨by rfl, ?_⟩) (by assumption) ?_
        case refine_2 => (intro w hSw; (try dsimp only at hSw); go_simp; (try with_reducible rfl))
        try simp only [Act.put, List.setIfInBounds_toArray, List.set_cons_zero, List.set_cons_succ]
        obtain ⟨⟨e0, e1, e2, e3, e4, e5, e6, e7, e8, e9, e10, e11, e12⟩, f0, f1, f2, f3, f4, f5, f6, f7, f8, f9, f10, f11, f12⟩ := sq_cells HRB.out
        refine wpAnyH_ready (rs := [2]) (by kernel_rfl) (by simp) ?_
        refine AllReadyH.cons (o := { dst := none, op := Op.store 42 (Operand.tmp 6) (Operand.tmp 125), type := 0, pos := "ref.go:147", after := #[{ on := 0, ground := Ground.data }, { on := 0, ground := Ground.phase }, { on := 1, ground := Ground.textOnly Departure.lateStores }], guard := none }) rfl (fun K hK => ?_) AllReadyH.nil
        go_simp
        refine hK.out _ _ (⟨((set13_other HPB.out hne1 (.int .i64 2) (.int .i64 (x1 : Int)) (.int .i64 0) (.int .i64 0) (.int .i64 0) (.int .i64 0) (.int .i64 0) (.int .i64 0) (.slice au lu cu) (.slice none 0 0) (.slice none 0 0) (.slice none 0 0) (.slice none 0 0)).ext ((Ext.refl _).drew)).cell rfl, ((set13_other HPB.out hne1 (.int .i64 2) (.int .i64 (x1 : Int)) (.int .i64 0) (.int .i64 0) (.int .i64 0) (.int .i64 0) (.int .i64 0) (.int .i64 0) (.slice au lu cu) (.slice none 0 0) (.slice none 0 0) (.slice none 0 0) (.slice none 0 0)).ext ((Ext.refl _).drew)).cell rfl, ((set13_other HPB.out hne1 (.int .i64 2) (.int .i64 (x1 : Int)) (.int .i64 0) (.int .i64 0) (.int .i64 0) (.int .i64 0) (.int .i64 0) (.int .i64 0) (.slice au lu cu) (.slice none 0 0) (.slice none 0 0) (.slice none 0 0) (.slice none 0 0)).ext ((Ext.refl _).drew)).cell rfl, ((set13_other HPB.out hne1 (.int .i64 2) (.int .i64 (x1 : Int)) (.int .i64 0) (.int .i64 0) (.int .i64 0) (.int .i64 0) (.int .i64 0) (.int .i64 0) (.slice au lu cu) (.slice none 0 0) (.slice none 0 0) (.slice none 0 0) (.slice none 0 0)).ext ((Ext.refl _).drew)).cell rfl, ((set13_other HPB.out hne1 (.int .i64 2) (.int .i64 (x1 : Int)) (.int .i64 0) (.int .i64 0) (.int .i64 0) (.int .i64 0) (.int .i64 0) (.int .i64 0) (.slice au lu cu) (.slice none 0 0) (.slice none 0 0) (.slice none 0 0) (.slice none 0 0)).ext ((Ext.refl _).drew)).cell rfl, ((set13_other HPB.out hne1 (.int .i64 2) (.int .i64 (x1 : Int)) (.int .i64 0) (.int .i64 0) (.int .i64 0) (.int .i64 0) (.int .i64 0) (.int .i64 0) (.slice au lu cu) (.slice none 0 0) (.slice none 0 0) (.slice none 0 0) (.slice none 0 0)).ext ((Ext.refl _).drew)).cell rfl, ((set13_other HPB.out hne1 (.int .i64 2) (.int .i64 (x1 : Int)) (.int .i64 0) (.int .i64 0) (.int .i64 0) (.int .i64 0) (.int .i64 0) (.int .i64 0) (.slice au lu cu) (.slice none 0 0) (.slice none 0 0) (.slice none 0 0) (.slice none 0 0)).ext ((Ext.refl _).drew)).cell rfl, ((set13_other HPB.out hne1 (.int .i64 2) (.int .i64 (x1 : Int)) (.int .i64 0) (.int .i64 0) (.int .i64 0) (.int .i64 0) (.int .i64 0) (.int .i64 0) (.slice au lu cu) (.slice none 0 0) (.slice none 0 0) (.slice none 0 0) (.slice none 0 0)).ext ((Ext.refl _).drew)).cell rfl, ((set13_other HPB.out hne1 (.int .i64 2) (.int .i64 (x1 : Int)) (.int .i64 0) (.int .i64 0) (.int .i64 0) (.int .i64 0) (.int .i64 0) (.int .i64 0) (.slice au lu cu) (.slice none 0 0) (.slice none 0 0) (.slice none 0 0) (.slice none 0 0)).ext ((Ext.refl _).drew)).cell rfl, ((set13_other HPB.out hne1 (.int .i64 2) (.int .i64 (x1 : Int)) (.int .i64 0) (.int .i64 0) (.int .i64 0) (.int .i64 0) (.int .i64 0) (.int .i64 0) (.slice au lu cu) (.slice none 0 0) (.slice none 0 0) (.slice none 0 0) (.slice none 0 0)).ext ((Ext.refl _).drew)).cell rfl, ((set13_other HPB.out hne1 (.int .i64 2) (.int .i64 (x1 : Int)) (.int .i64 0) (.int .i64 0) (.int .i64 0) (.int .i64 0) (.int .i64 0) (.int .i64 0) (.slice au lu cu) (.slice none 0 0) (.slice none 0 0) (.slice none 0 0) (.slice none 0 0)).ext ((Ext.refl _).drew)).cell rfl, ((set13_other HPB.out hne1 (.int .i64 2) (.int .i64 (x1 : Int)) (.int .i64 0) (.int .i64 0) (.int .i64 0) (.int .i64 0) (.int .i64 0) (.int .i64 0) (.slice au lu cu) (.slice none 0 0) (.slice none 0 0) (.slice none 0 0) (.slice none 0 0)).ext ((Ext.refl _).drew)).cell rfl, ((set13_other HPB.out hne1 (.int .i64 2) (.int .i64 (x1 : Int)) (.int .i64 0) (.int .i64 0) (.int .i64 0) (.int .i64 0) (.int .i64 0) (.int .i64 0) (.slice au lu cu) (.slice none 0 0) (.slice none 0 0) (.slice none 0 0) (.slice none 0 0)).ext ((Ext.refl _).drew)).cell rfl, ((set13_other HXB.out hne2 (.int .i64 2) (.int .i64 (x1 : Int)) (.int .i64 0) (.int .i64 0) (.int .i64 0) (.int .i64 0) (.int .i64 0) (.int .i64 0) (.slice au lu cu) (.slice none 0 0) (.slice none 0 0) (.slice none 0 0) (.slice none 0 0)).ext ((Ext.refl _).drew)).cell rfl, ((set13_other HXB.out hne2 (.int .i64 2) (.int .i64 (x1 : Int)) (.int .i64 0) (.int .i64 0) (.int .i64 0) (.int .i64 0) (.int .i64 0) (.int .i64 0) (.slice au lu cu) (.slice none 0 0) (.slice none 0 0) (.slice none 0 0) (.slice none 0 0)).ext ((Ext.refl _).drew)).cell rfl⟩) (fun hHeld => ?_)
        clear hK K
        try simp only [Act.put, List.setIfInBounds_toArray, List.set_cons_zero, List.set_cons_succ]
        have ey0 := (set13_other HEB.out h12 (.int .i64 2) (.int .i64 (x1 : Int)) (.int .i64 0) (.int .i64 0) (.int .i64 0) (.int .i64 0) (.int .i64 0) (.int .i64 0) (.slice au lu cu) (.slice none 0 0) (.slice none 0 0) (.slice none 0 0) (.slice none 0 0)).cell (i := 0) (v := .int .i64 0) rfl
        have ey1 := (set13_other HEB.out h12 (.int .i64 2) (.int .i64 (x1 : Int)) (.int .i64 0) (.int .i64 0) (.int .i64 0) (.int .i64 0) (.int .i64 0) (.int .i64 0) (.slice au lu cu) (.slice none 0 0) (.slice none 0 0) (.slice none 0 0) (.slice none 0 0)).cell (i := 1) (v := .slice none 0 0) rfl
        have yf0 := (set13_other HEB.out h12 (.int .i64 2) (.int .i64 (x1 : Int)) (.int .i64 0) (.int .i64 0) (.int .i64 0) (.int .i64 0) (.int .i64 0) (.int .i64 0) (.slice au lu cu) (.slice none 0 0) (.slice none 0 0) (.slice none 0 0) (.slice none 0 0)).free (i := 0)
        have yf1 := (set13_other HEB.out h12 (.int .i64 2) (.int .i64 (x1 : Int)) (.int .i64 0) (.int .i64 0) (.int .i64 0) (.int .i64 0) (.int .i64 0) (.int .i64 0) (.slice au lu cu) (.slice none 0 0) (.slice none 0 0) (.slice none 0 0) (.slice none 0 0)).free (i := 1)
        clear e0 e1 e2 e3 e4 e5 e6 e7 e8 e9 e10 e11 e12 f0 f1 f2 f3 f4 f5 f6 f7 f8 f9 f10 f11 f12
        refine wpAnyH_ready (rs := [3]) (by kernel_rfl) (by simp) ?_
        refine AllReadyH.cons (o := { dst := none, op := Op.store 46 (Operand.tmp 7) (Operand.tmp 126), type := 0, pos := "ref.go:147", after := #[{ on := 1, ground := Ground.data }, { on := 2, ground := Ground.chain }, { on := 0, ground := Ground.phase }, { on := 1, ground := Ground.phase }, { on := 2, ground := Ground.phase }], guard := none }) rfl (fun K hK => ?_) AllReadyH.nil
        go_simp
        refine hK.out _ _ (⟨((((set13_other HPB.out hne1 (.int .i64 2) (.int .i64 (x1 : Int)) (.int .i64 0) (.int .i64 0) (.int .i64 0) (.int .i64 0) (.int .i64 0) (.int .i64 0) (.slice au lu cu) (.slice none 0 0) (.slice none 0 0) (.slice none 0 0) (.slice none 0 0)).other (p := ⟨w.heap.size + 2, 0, none⟩) hne3 _).other (p := ⟨w.heap.size + 2, 1, none⟩) hne3 _).ext ((Ext.refl _).drew)).cell rfl, ((((set13_other HPB.out hne1 (.int .i64 2) (.int .i64 (x1 : Int)) (.int .i64 0) (.int .i64 0) (.int .i64 0) (.int .i64 0) (.int .i64 0) (.int .i64 0) (.slice au lu cu) (.slice none 0 0) (.slice none 0 0) (.slice none 0 0) (.slice none 0 0)).other (p := ⟨w.heap.size + 2, 0, none⟩) hne3 _).other (p := ⟨w.heap.size + 2, 1, none⟩) hne3 _).ext ((Ext.refl _).drew)).cell rfl, ((((set13_other HPB.out hne1 (.int .i64 2) (.int .i64 (x1 : Int)) (.int .i64 0) (.int .i64 0) (.int .i64 0) (.int .i64 0) (.int .i64 0) (.int .i64 0) (.slice au lu cu) (.slice none 0 0) (.slice none 0 0) (.slice none 0 0) (.slice none 0 0)).other (p := ⟨w.heap.size + 2, 0, none⟩) hne3 _).other (p := ⟨w.heap.size + 2, 1, none⟩) hne3 _).ext ((Ext.refl _).drew)).cell rfl, ((((set13_other HPB.out hne1 (.int .i64 2) (.int .i64 (x1 : Int)) (.int .i64 0) (.int .i64 0) (.int .i64 0) (.int .i64 0) (.int .i64 0) (.int .i64 0) (.slice au lu cu) (.slice none 0 0) (.slice none 0 0) (.slice none 0 0) (.slice none 0 0)).other (p := ⟨w.heap.size + 2, 0, none⟩) hne3 _).other (p := ⟨w.heap.size + 2, 1, none⟩) hne3 _).ext ((Ext.refl _).drew)).cell rfl, ((((set13_other HPB.out hne1 (.int .i64 2) (.int .i64 (x1 : Int)) (.int .i64 0) (.int .i64 0) (.int .i64 0) (.int .i64 0) (.int .i64 0) (.int .i64 0) (.slice au lu cu) (.slice none 0 0) (.slice none 0 0) (.slice none 0 0) (.slice none 0 0)).other (p := ⟨w.heap.size + 2, 0, none⟩) hne3 _).other (p := ⟨w.heap.size + 2, 1, none⟩) hne3 _).ext ((Ext.refl _).drew)).cell rfl, ((((set13_other HPB.out hne1 (.int .i64 2) (.int .i64 (x1 : Int)) (.int .i64 0) (.int .i64 0) (.int .i64 0) (.int .i64 0) (.int .i64 0) (.int .i64 0) (.slice au lu cu) (.slice none 0 0) (.slice none 0 0) (.slice none 0 0) (.slice none 0 0)).other (p := ⟨w.heap.size + 2, 0, none⟩) hne3 _).other (p := ⟨w.heap.size + 2, 1, none⟩) hne3 _).ext ((Ext.refl _).drew)).cell rfl, ((((set13_other HPB.out hne1 (.int .i64 2) (.int .i64 (x1 : Int)) (.int .i64 0) (.int .i64 0) (.int .i64 0) (.int .i64 0) (.int .i64 0) (.int .i64 0) (.slice au lu cu) (.slice none 0 0) (.slice none 0 0) (.slice none 0 0) (.slice none 0 0)).other (p := ⟨w.heap.size + 2, 0, none⟩) hne3 _).other (p := ⟨w.heap.size + 2, 1, none⟩) hne3 _).ext ((Ext.refl _).drew)).cell rfl, ((((set13_other HPB.out hne1 (.int .i64 2) (.int .i64 (x1 : Int)) (.int .i64 0) (.int .i64 0) (.int .i64 0) (.int .i64 0) (.int .i64 0) (.int .i64 0) (.slice au lu cu) (.slice none 0 0) (.slice none 0 0) (.slice none 0 0) (.slice none 0 0)).other (p := ⟨w.heap.size + 2, 0, none⟩) hne3 _).other (p := ⟨w.heap.size + 2, 1, none⟩) hne3 _).ext ((Ext.refl _).drew)).cell rfl, ((((set13_other HPB.out hne1 (.int .i64 2) (.int .i64 (x1 : Int)) (.int .i64 0) (.int .i64 0) (.int .i64 0) (.int .i64 0) (.int .i64 0) (.int .i64 0) (.slice au lu cu) (.slice none 0 0) (.slice none 0 0) (.slice none 0 0) (.slice none 0 0)).other (p := ⟨w.heap.size + 2, 0, none⟩) hne3 _).other (p := ⟨w.heap.size + 2, 1, none⟩) hne3 _).ext ((Ext.refl _).drew)).cell rfl, ((((set13_other HPB.out hne1 (.int .i64 2) (.int .i64 (x1 : Int)) (.int .i64 0) (.int .i64 0) (.int .i64 0) (.int .i64 0) (.int .i64 0) (.int .i64 0) (.slice au lu cu) (.slice none 0 0) (.slice none 0 0) (.slice none 0 0) (.slice none 0 0)).other (p := ⟨w.heap.size + 2, 0, none⟩) hne3 _).other (p := ⟨w.heap.size + 2, 1, none⟩) hne3 _).ext ((Ext.refl _).drew)).cell rfl, ((((set13_other HPB.out hne1 (.int .i64 2) (.int .i64 (x1 : Int)) (.int .i64 0) (.int .i64 0) (.int .i64 0) (.int .i64 0) (.int .i64 0) (.int .i64 0) (.slice au lu cu) (.slice none 0 0) (.slice none 0 0) (.slice none 0 0) (.slice none 0 0)).other (p := ⟨w.heap.size + 2, 0, none⟩) hne3 _).other (p := ⟨w.heap.size + 2, 1, none⟩) hne3 _).ext ((Ext.refl _).drew)).cell rfl, ((((set13_other HPB.out hne1 (.int .i64 2) (.int .i64 (x1 : Int)) (.int .i64 0) (.int .i64 0) (.int .i64 0) (.int .i64 0) (.int .i64 0) (.int .i64 0) (.slice au lu cu) (.slice none 0 0) (.slice none 0 0) (.slice none 0 0) (.slice none 0 0)).other (p := ⟨w.heap.size + 2, 0, none⟩) hne3 _).other (p := ⟨w.heap.size + 2, 1, none⟩) hne3 _).ext ((Ext.refl _).drew)).cell rfl, ((((set13_other HPB.out hne1 (.int .i64 2) (.int .i64 (x1 : Int)) (.int .i64 0) (.int .i64 0) (.int .i64 0) (.int .i64 0) (.int .i64 0) (.int .i64 0) (.slice au lu cu) (.slice none 0 0) (.slice none 0 0) (.slice none 0 0) (.slice none 0 0)).other (p := ⟨w.heap.size + 2, 0, none⟩) hne3 _).other (p := ⟨w.heap.size + 2, 1, none⟩) hne3 _).ext ((Ext.refl _).drew)).cell rfl, ((((set13_other HXB.out hne2 (.int .i64 2) (.int .i64 (x1 : Int)) (.int .i64 0) (.int .i64 0) (.int .i64 0) (.int .i64 0) (.int .i64 0) (.int .i64 0) (.slice au lu cu) (.slice none 0 0) (.slice none 0 0) (.slice none 0 0) (.slice none 0 0)).other (p := ⟨w.heap.size + 2, 0, none⟩) hne4 _).other (p := ⟨w.heap.size + 2, 1, none⟩) hne4 _).ext ((Ext.refl _).drew)).cell rfl, ((((set13_other HXB.out hne2 (.int .i64 2) (.int .i64 (x1 : Int)) (.int .i64 0) (.int .i64 0) (.int .i64 0) (.int .i64 0) (.int .i64 0) (.int .i64 0) (.slice au lu cu) (.slice none 0 0) (.slice none 0 0) (.slice none 0 0) (.slice none 0 0)).other (p := ⟨w.heap.size + 2, 0, none⟩) hne4 _).other (p := ⟨w.heap.size + 2, 1, none⟩) hne4 _).ext ((Ext.refl _).drew)).cell rfl⟩) (fun hHeld => ?_)
        clear hK K hHeld
        try simp only [Act.put, List.setIfInBounds_toArray, List.set_cons_zero, List.set_cons_succ]
        refine wpAnyH_done (by kernel_rfl) ?_ _
        obtain ⟨GG, k1, k2⟩ := drop_mid (DwF.objD a) HSk.out
        have hZ : Step F w _ _ := (Step.of_ext (F := F) HE6.out).trans HIk.out
        obtain ⟨z1, z2, z3, z4⟩ := fin_all ((DwF.objD a).sep HoF.obj) k1 (hZ.sub k2) HB1.out (fun h => HN1.out (k2 _ h)) HB2.out (fun h => HN2.out (k2 _ h)) h12 HRB.out HEB.out (.int .i64 2) (.int .i64 (x1 : Int)) (.int .i64 0) (.int .i64 0) (.int .i64 0) (.int .i64 0) (.int .i64 0) (.int .i64 0) (.slice au lu cu) (.slice none 0 0) (.slice none 0 0) (.slice none 0 0) (.slice none 0 0) (.int .i64 0) (.slice none 0 0)
        have z1 := Obj.ext ((DwF.objD a).sep HoF.obj) z1 ((Ext.refl _).drew)
        have z2 := z2.ext ((Ext.refl _).drew)
        have z3 := z3.ext ((Ext.refl _).drew)
        have z4 := z4.ext ((Ext.refl _).drew)
        clear ey0 ey1 yf0 yf1 k1 hZ
        generalize World.drew _ = wz at z1 z2 z3 z4 ⊢
        obtain ⟨⟨g0, g1, g2, g3, g4, g5, g6, g7, g8, g9, g10, g11, g12⟩, -⟩ := sq_cells z3
        have ey0 := z4.cell (i := 0) (v := .int .i64 0) rfl
        have ey1 := z4.cell (i := 1) (v := .slice none 0 0) rfl
        have HZ1 := Lib.hid z1
        have HZ2 := Lib.hid z2
        clear z1 z2 z3 z4
        go_wp2
        exact bodyPost_ret (v := .tuple #[.agg #[.int .i64 2, .int .i64 (x1 : Int), .int .i64 0, .int .i64 0, .int .i64 0, .int .i64 0, .int .i64 0, .int .i64 0, .slice au lu cu, .slice none 0 0, .slice none 0 0, .slice none 0 0, .slice none 0 0], .agg #[.int .i64 0, .slice none 0 0]]) (by simp [results, Tryz.results12, go_sem, g0, g1, g2, g3, g4, g5, g6, g7, g8, g9, g10, g11, g12, ey0, ey1]) rfl (RSqR.done (L := (.slice au lu cu)) (s0 := nilS) (s1 := nilS) (s2 := nilS) (s3 := nilS) (HSX.out.trans HA.out) HZ1.out HZ2.out (fun W h => ⟨⟨h.2.1, Ints.nil W, Ints.nil W, Ints.nil W, Ints.nil W⟩, RErrIs.zero⟩))
      · subst hf
        obtain ⟨hc5, -, -⟩ := hx5
        obtain rfl : c = 3 := hc5
        obtain ⟨⟨s0, s1, s2, s3, s4, s5, s6, s7, s8, s9, s10, s11, s12⟩, -⟩ := sq_cells (HKP.out _ _ HI5.out).1.get.1.2
        obtain ⟨⟨p0, p1, p2, p3, p4, p5, p6, p7, p8, p9, p10, p11, p12⟩, f0, f1, f2, f3, f4, f5, f6, f7, f8, f9, f10, f11, f12⟩ := sq_cells (bp_p HS5.out).1
        have ec0 := (bp_p HS5.out).2.cell (i := 0) (v := .int .i64 0) rfl
        have ec1 := (bp_p HS5.out).2.cell (i := 1) (v := .slice none 0 0) rfl
        have xf0 := (bp_p HS5.out).2.free (i := 0)
        have xf1 := (bp_p HS5.out).2.free (i := 1)
        have hs := bp_setp (DwF.objD a) HS5.out 8 (.slice au lu cu)
        have HS6 : Hid (Sep (Sep (DwF a) (BpF w7.heap.size (w7.heap.size + 1))) HoF (w5.setCell ⟨w7.heap.size, 8, none⟩ (.slice au lu cu)) _ ((_, (#[.int .i64 2, .int .i64 (x1 : Int), .int .i64 0, .int .i64 0, .int .i64 0, .int .i64 0, .int .i64 0, .int .i64 0, .slice au lu cu, .slice none 0 0, .slice none 0 0, .slice none 0 0, .slice none 0 0], #[.int .i64 0, .slice none 0 0])), _)) := hs.1
        have HI6 := Lib.hid (HI5.out.trans hs.2)
        clear hs
        have hs := bp_sete (DwF.objD a) HS6.out 0 (.int .i64 3)
        have HS7 : Hid (Sep (Sep (DwF a) (BpF w7.heap.size (w7.heap.size + 1))) HoF ((w5.setCell ⟨w7.heap.size, 8, none⟩ (.slice au lu cu)).setCell ⟨w7.heap.size + 1, 0, none⟩ (.int .i64 3)) _ ((_, (#[.int .i64 2, .int .i64 (x1 : Int), .int .i64 0, .int .i64 0, .int .i64 0, .int .i64 0, .int .i64 0, .int .i64 0, .slice au lu cu, .slice none 0 0, .slice none 0 0, .slice none 0 0, .slice none 0 0], #[.int .i64 3, .slice none 0 0])), _)) := hs.1
        have HI7 := Lib.hid (HI6.out.trans hs.2)
        clear hs
        have hs := bp_sete (DwF.objD a) HS7.out 1 (.slice ra rn rk)
        have HS8 : Hid (Sep (Sep (DwF a) (BpF w7.heap.size (w7.heap.size + 1))) HoF (((w5.setCell ⟨w7.heap.size, 8, none⟩ (.slice au lu cu)).setCell ⟨w7.heap.size + 1, 0, none⟩ (.int .i64 3)).setCell ⟨w7.heap.size + 1, 1, none⟩ (.slice ra rn rk)) _ ((_, (#[.int .i64 2, .int .i64 (x1 : Int), .int .i64 0, .int .i64 0, .int .i64 0, .int .i64 0, .int .i64 0, .int .i64 0, .slice au lu cu, .slice none 0 0, .slice none 0 0, .slice none 0 0, .slice none 0 0], #[.int .i64 3, .slice ra rn rk])), _)) := hs.1
        have HI8 := Lib.hid (HI7.out.trans hs.2)
        clear hs
        go_wp2_with fail
        refine wp_loop_rounds 2 ?_
        rw [rounds_succ]
        go_wp2_with fail
        clear s0 s1 s2 s3 s4 s5 s6 s7 s8 s9 s10 s11 s12 p0 p1 p2 p3 p4 p5 p6 p7 p8 p9 p10 p11 p12 f0 f1 f2 f3 f4 f5 f6 f7 f8 f9 f10 f11 f12 ec0 ec1 xf0 xf1
        generalize World.setCell _ _ _ = w9 at HS8 HI8 ⊢
        clear HS5 HS6 HS7 HI5 HI6 HI7
        have HA := Lib.hid (sq_run_bad HEK.out (HRUN.out.1 _ (by first | rfl | trivial)))
        refine (ok_any _ _ _).mono ?_; rintro e wk ⟨rfl, hxk⟩
        have HSk := Lib.hid (Obj.ext (((DwF.objD a).sep (BpF.obj w7.heap.size (w7.heap.size + 1))).sep HoF.obj) HS8.out hxk)
        have HIk := Lib.hid (HI8.out.ext hxk)
        clear hxk HS8 HI8
        have pk := (bp_p HSk.out).1.cell (i := 0) (v := .int .i64 2) rfl
        have ec0 := (bp_p HSk.out).2.cell (i := 0) (v := .int .i64 3) rfl
        have ec1 := (bp_p HSk.out).2.cell (i := 1) (v := .slice ra rn rk) rfl
        go_wp2_with fail
        refine (rin_hold synS 2 _ _ _ _ [(coefS, iq)] _ (bp_has HSk.out).2.2 (Nat.le_refl 1)).mono ?_; rintro e wi ⟨ua, un, uk, X, rfl, hxi, hxx, hoi⟩
        clear pk ec0 ec1
        obtain ⟨qa, qd⟩ := HKP.out _ _ HIk.out
        have HRB := Lib.hid (qa.get.1.1.1.ext hxi)
        have HEB := Lib.hid (qa.get.1.1.2.ext hxi)
        have HN1 := Lib.hid (qd (w.heap.size + 1) (.inl (.inl (.inl rfl))))
        have HN2 := Lib.hid (qd (w.heap.size + 2) (.inl (.inl (.inr rfl))))
        have hb1l := qa.get.1.1.1.lt
        have hb2l := qa.get.1.1.2.lt
        clear qa qd
        obtain ⟨GG, k1, k2⟩ := drop_mid (DwF.objD a) HSk.out
        have hZ : Step F w _ _ := (Step.of_ext (F := F) HE6.out).trans HIk.out
        obtain ⟨GN, m1, m2, m3⟩ := bag_addF (DwF.objD a) k1 (hZ.sub k2) hxi hoi hxx
        have n1 : ¬ GN (w.heap.size + 1) := fun h => by rcases m3 _ h with h | h; exact HN1.out (k2 _ h); omega
        have n2 : ¬ GN (w.heap.size + 2) := fun h => by rcases m3 _ h with h | h; exact HN2.out (k2 _ h); omega
        obtain ⟨z1, z2, z3, z4⟩ := fin_all ((DwF.objD a).sep HoF.obj) m1 m2 HB1.out n1 HB2.out n2 h12 HRB.out HEB.out (.int .i64 0) (.int .i64 0) (.int .i64 0) (.int .i64 0) (.int .i64 0) (.int .i64 0) (.int .i64 0) (.int .i64 0) (.slice none 0 0) (.slice none 0 0) (.slice none 0 0) (.slice none 0 0) (.slice none 0 0) (.int .i64 3) (.slice ua un uk)
        have HZ1 := Lib.hid z1
        have HZ2 := Lib.hid z2
        obtain ⟨⟨g0, g1, g2, g3, g4, g5, g6, g7, g8, g9, g10, g11, g12⟩, -⟩ := sq_cells z3
        have ey0 := z4.cell (i := 0) (v := .int .i64 3) rfl
        have ey1 := z4.cell (i := 1) (v := .slice ua un uk) rfl
        clear z1 z2 z3 z4 m1 m2 m3 n1 n2 k1 k2 hZ hxi hoi hxx
        obtain ⟨⟨e0, e1, e2, e3, e4, e5, e6, e7, e8, e9, e10, e11, e12⟩, f0, f1, f2, f3, f4, f5, f6, f7, f8, f9, f10, f11, f12⟩ := sq_cells HRB.out
        have w0' := (set13_other HEB.out h12 (.int .i64 0) (.int .i64 0) (.int .i64 0) (.int .i64 0) (.int .i64 0) (.int .i64 0) (.int .i64 0) (.int .i64 0) (.slice none 0 0) (.slice none 0 0) (.slice none 0 0) (.slice none 0 0) (.slice none 0 0)).cell (i := 0) (v := .int .i64 0) rfl
        have w1' := (set13_other HEB.out h12 (.int .i64 0) (.int .i64 0) (.int .i64 0) (.int .i64 0) (.int .i64 0) (.int .i64 0) (.int .i64 0) (.int .i64 0) (.slice none 0 0) (.slice none 0 0) (.slice none 0 0) (.slice none 0 0) (.slice none 0 0)).cell (i := 1) (v := .slice none 0 0) rfl
        have wf0 := (set13_other HEB.out h12 (.int .i64 0) (.int .i64 0) (.int .i64 0) (.int .i64 0) (.int .i64 0) (.int .i64 0) (.int .i64 0) (.int .i64 0) (.slice none 0 0) (.slice none 0 0) (.slice none 0 0) (.slice none 0 0) (.slice none 0 0)).free (i := 0)
        have wf1 := (set13_other HEB.out h12 (.int .i64 0) (.int .i64 0) (.int .i64 0) (.int .i64 0) (.int .i64 0) (.int .i64 0) (.int .i64 0) (.int .i64 0) (.slice none 0 0) (.slice none 0 0) (.slice none 0 0) (.slice none 0 0) (.slice none 0 0)).free (i := 1)
        go_wp2
        exact bodyPost_ret (v := .tuple #[.agg #[.int .i64 0, .int .i64 0, .int .i64 0, .int .i64 0, .int .i64 0, .int .i64 0, .int .i64 0, .int .i64 0, .slice none 0 0, .slice none 0 0, .slice none 0 0, .slice none 0 0, .slice none 0 0], .agg #[.int .i64 3, .slice ua un uk]]) (by simp [results, Tryz.results12, go_sem, g0, g1, g2, g3, g4, g5, g6, g7, g8, g9, g10, g11, g12, ey0, ey1]) rfl (RSqR.done (q := sq0) (L := nilS) (s0 := nilS) (s1 := nilS) (s2 := nilS) (s3 := nilS) (HSX.out.trans HA.out) HZ1.out HZ2.out (fun W h => ⟨SqIs.nil W 0, h.2⟩))
    by_cases hkk3 : kk = 3
    · subst hkk3
      have hlv0 : lvE (xs0) 16 = none := (li_s HLI.out hgk).1
      have hll0 : (xs0).length = 16 := (lvE_none hlv0).1
      obtain ⟨⟨m0, q0⟩, e0⟩ : ∃ r, modeM mX t1 (cl3 (ga)) = r := ⟨_, rfl⟩
      obtain ⟨⟨⟨f0, y0⟩, t2⟩, d0⟩ : ∃ r, (codP (xs0)).run mX q0 = r := ⟨_, rfl⟩
      have ka0 := mod_ok mkX HK1.out e0
      have kb0 := cod_ok mkX ka0 hll0 d0
      have UA0 := Lib.hid (fun G w' (h : (DwF a) w' G t1) => dwmode_any a _  (ga) t1 G w' h HK1.out (by omega))
      have UB0 := Lib.hid (fun Y G w' (h : (DwF a) w' G q0) (hv : HoF w' Y (fun W => Ints W (.slice a0 l0 c0) (xs0))) (hd : ∀ k, Y k → ¬ G k) => dwcode_any a _ (xs0) _ Y q0 G w' h ka0 (by omega) hv hd)
      rw [e0] at UA0
      rw [d0] at UB0
      have HC0 := Lib.hid (cod_two (.inl rfl) hlv0 d0)
      have hlv1 : lvE (xs1) 16 = none := (li_s HLI.out hgk).2.1
      have hll1 : (xs1).length = 16 := (lvE_none hlv1).1
      obtain ⟨⟨m1, q1⟩, e1⟩ : ∃ r, modeM mX t2 (cl3 (gb)) = r := ⟨_, rfl⟩
      obtain ⟨⟨⟨f1, y1⟩, t3⟩, d1⟩ : ∃ r, (codP (xs1)).run mX q1 = r := ⟨_, rfl⟩
      have ka1 := mod_ok mkX kb0 e1
      have kb1 := cod_ok mkX ka1 hll1 d1
      have UA1 := Lib.hid (fun G w' (h : (DwF a) w' G t2) => dwmode_any a _  (gb) t2 G w' h kb0 (by omega))
      have UB1 := Lib.hid (fun Y G w' (h : (DwF a) w' G q1) (hv : HoF w' Y (fun W => Ints W (.slice a1 l1 c1) (xs1))) (hd : ∀ k, Y k → ¬ G k) => dwcode_any a _ (xs1) _ Y q1 G w' h ka1 (by omega) hv hd)
      rw [e1] at UA1
      rw [d1] at UB1
      have HC1 := Lib.hid (cod_two (.inl rfl) hlv1 d1)
      have hlv2 : lvE (xs2) 16 = none := (li_s HLI.out hgk).2.2.1
      have hll2 : (xs2).length = 16 := (lvE_none hlv2).1
      obtain ⟨⟨m2, q2⟩, e2⟩ : ∃ r, modeM mX t3 (cl3 (gc)) = r := ⟨_, rfl⟩
      obtain ⟨⟨⟨f2, y2⟩, t4⟩, d2⟩ : ∃ r, (codP (xs2)).run mX q2 = r := ⟨_, rfl⟩
      have ka2 := mod_ok mkX kb1 e2
      have kb2 := cod_ok mkX ka2 hll2 d2
      have UA2 := Lib.hid (fun G w' (h : (DwF a) w' G t3) => dwmode_any a _  (gc) t3 G w' h kb1 (by omega))
      have UB2 := Lib.hid (fun Y G w' (h : (DwF a) w' G q2) (hv : HoF w' Y (fun W => Ints W (.slice a2 l2 c2) (xs2))) (hd : ∀ k, Y k → ¬ G k) => dwcode_any a _ (xs2) _ Y q2 G w' h ka2 (by omega) hv hd)
      rw [e2] at UA2
      rw [d2] at UB2
      have HC2 := Lib.hid (cod_two (.inl rfl) hlv2 d2)
      have hlv3 : lvE (xs3) 16 = none := (li_s HLI.out hgk).2.2.2
      have hll3 : (xs3).length = 16 := (lvE_none hlv3).1
      obtain ⟨⟨m3, q3⟩, e3⟩ : ∃ r, modeM mX t4 (cl3 (gd)) = r := ⟨_, rfl⟩
      obtain ⟨⟨⟨f3, y3⟩, t5⟩, d3⟩ : ∃ r, (codP (xs3)).run mX q3 = r := ⟨_, rfl⟩
      have ka3 := mod_ok mkX kb2 e3
      have kb3 := cod_ok mkX ka3 hll3 d3
      have UA3 := Lib.hid (fun G w' (h : (DwF a) w' G t4) => dwmode_any a _  (gd) t4 G w' h kb2 (by omega))
      have UB3 := Lib.hid (fun Y G w' (h : (DwF a) w' G q3) (hv : HoF w' Y (fun W => Ints W (.slice a3 l3 c3) (xs3))) (hd : ∀ k, Y k → ¬ G k) => dwcode_any a _ (xs3) _ Y q3 G w' h ka3 (by omega) hv hd)
      rw [e3] at UA3
      rw [d3] at UB3
      have HC3 := Lib.hid (cod_two (.inl rfl) hlv3 d3)
      have HRUN := Lib.hid (fo_runs (q := ⟨gk, gm, ga, gb, gc, gd, gx, gy, xL, xs0, xs1, xs2, xs3⟩) e0 d0 e1 d1 e2 d2 e3 d3)
      clear e0 d0 e1 d1 e2 d2 e3 d3 ka0 ka1 ka2 ka3 kb0 kb1 kb2 kb3 hlv0 hlv1 hlv2 hlv3 hll0 hll1 hll2 hll3
      go_wp2_with fail
      refine wp_loop_rounds 6 ?_
      rw [rounds_succ]
      go_wp2_with fail
      rw [HW8.out]
      clear s0 s1 s2 s3 s4 s5 s6 s7 s8 s9 s10 s11 s12 p0 p1 p2 p3 p4 p5 p6 p7 p8 p9 p10 p11 p12 ec0 ec1
      refine (ok_any _ _ _).mono ?_; rintro e wka0 ⟨rfl, hxk⟩
      have HSa0 := Lib.hid (Obj.ext (((DwF.objD a).sep (BpF.obj w7.heap.size (w7.heap.size + 1))).sep HoF.obj) HS0.out hxk)
      have HIa0 := Lib.hid (HI0.out.ext hxk)
      clear hxk HS0 HI0
      obtain ⟨⟨s0, s1, s2, s3, s4, s5, s6, s7, s8, s9, s10, s11, s12⟩, -⟩ := sq_cells (HKP.out _ _ HIa0.out).1.get.1.2
      go_wp2_with fail
      clear s0 s1 s2 s3 s4 s5 s6 s7 s8 s9 s10 s11 s12
      refine (bp_call HSa0.out (fun G hG => UA0.out G _ hG)).mono ?_; rintro e w1 ⟨rfl, G1, h1', st1⟩
      have HSb0 := Lib.hid h1'
      have HIb0 := Lib.hid (HIa0.out.trans st1)
      clear h1' st1 HSa0 HIa0 UA0
      obtain ⟨⟨s0, s1, s2, s3, s4, s5, s6, s7, s8, s9, s10, s11, s12⟩, -⟩ := sq_cells (HKP.out _ _ HIb0.out).1.get.1.2
      obtain ⟨⟨p0, p1, p2, p3, p4, p5, p6, p7, p8, p9, p10, p11, p12⟩, f0, f1, f2, f3, f4, f5, f6, f7, f8, f9, f10, f11, f12⟩ := sq_cells (bp_p HSb0.out).1
      have ec0 := (bp_p HSb0.out).2.cell (i := 0) (v := .int .i64 0) rfl
      have ec1 := (bp_p HSb0.out).2.cell (i := 1) (v := .slice none 0 0) rfl
      have xf0 := (bp_p HSb0.out).2.free (i := 0)
      have xf1 := (bp_p HSb0.out).2.free (i := 1)
      have hs := bp_setp (DwF.objD a) HSb0.out 2 (.int .i64 (m0 : Int))
      have HSc0 : Hid (Sep (Sep (DwF a) (BpF w7.heap.size (w7.heap.size + 1))) HoF (w1.setCell ⟨w7.heap.size, 2, none⟩ (.int .i64 (m0 : Int))) _ ((_, (#[.int .i64 3, .int .i64 0, .int .i64 (m0 : Int), .int .i64 0, .int .i64 0, .int .i64 0, .int .i64 0, .int .i64 0, .slice none 0 0, .slice none 0 0, .slice none 0 0, .slice none 0 0, .slice none 0 0], #[.int .i64 0, .slice none 0 0])), _)) := hs.1
      have HIc0 := Lib.hid (HIb0.out.trans hs.2)
      clear hs
      go_wp2_with fail
      clear s0 s1 s2 s3 s4 s5 s6 s7 s8 s9 s10 s11 s12 p0 p1 p2 p3 p4 p5 p6 p7 p8 p9 p10 p11 p12 f0 f1 f2 f3 f4 f5 f6 f7 f8 f9 f10 f11 f12 ec0 ec1 xf0 xf1
      generalize w1.setCell _ _ = w4 at HSc0 HIc0 ⊢
      clear HSb0 HIb0
      obtain ⟨kx, kd⟩ := HKP.out _ _ HIc0.out
      refine (sep_lqF (BpF.obj w7.heap.size (w7.heap.size + 1)) HSc0.out (fun G hG hs => UB0.out _ G _ hG (kx.imp (fun W h => h.2.2.1)) (fun k hk hg => kd k hk (hs k hg)))).mono ?_; rintro e w5 ⟨t, P0, G5, ⟨u0, c0, ra0, rn0, rk0, rfl, hp⟩, h5, st5⟩
      obtain ⟨rfl, rfl⟩ := Prod.mk.inj hp
      have HSd0 := Lib.hid h5
      have HId0 := Lib.hid (HIc0.out.trans st5)
      obtain ⟨au0, lu0, cu0, rfl⟩ := (bp_has h5).2.1.slf
      have hx5 := (bp_has h5).2.2
      clear h5 st5 kx kd hp HSc0 HIc0
      clear UB0
      rcases HC0.out with hf | ⟨iq, hf⟩
      · subst hf
        obtain ⟨rfl, hsl⟩ := hx5
        obtain ⟨rfl, rfl, rfl⟩ := by simpa using hsl
        obtain ⟨⟨s0, s1, s2, s3, s4, s5, s6, s7, s8, s9, s10, s11, s12⟩, -⟩ := sq_cells (HKP.out _ _ HId0.out).1.get.1.2
        obtain ⟨⟨p0, p1, p2, p3, p4, p5, p6, p7, p8, p9, p10, p11, p12⟩, f0, f1, f2, f3, f4, f5, f6, f7, f8, f9, f10, f11, f12⟩ := sq_cells (bp_p HSd0.out).1
        have ec0 := (bp_p HSd0.out).2.cell (i := 0) (v := .int .i64 0) rfl
        have ec1 := (bp_p HSd0.out).2.cell (i := 1) (v := .slice none 0 0) rfl
        have xf0 := (bp_p HSd0.out).2.free (i := 0)
        have xf1 := (bp_p HSd0.out).2.free (i := 1)
        have hs := bp_setp (DwF.objD a) HSd0.out 9 (.slice au0 lu0 cu0)
        have HSe0 : Hid (Sep (Sep (DwF a) (BpF w7.heap.size (w7.heap.size + 1))) HoF (w5.setCell ⟨w7.heap.size, 9, none⟩ (.slice au0 lu0 cu0)) _ ((_, (#[.int .i64 3, .int .i64 0, .int .i64 (m0 : Int), .int .i64 0, .int .i64 0, .int .i64 0, .int .i64 0, .int .i64 0, .slice none 0 0, .slice au0 lu0 cu0, .slice none 0 0, .slice none 0 0, .slice none 0 0], #[.int .i64 0, .slice none 0 0])), _)) := hs.1
        have HIe0 := Lib.hid (HId0.out.trans hs.2)
        clear hs
        have hs := bp_sete (DwF.objD a) HSe0.out 0 (.int .i64 0)
        have HSf0 : Hid (Sep (Sep (DwF a) (BpF w7.heap.size (w7.heap.size + 1))) HoF ((w5.setCell ⟨w7.heap.size, 9, none⟩ (.slice au0 lu0 cu0)).setCell ⟨w7.heap.size + 1, 0, none⟩ (.int .i64 0)) _ ((_, (#[.int .i64 3, .int .i64 0, .int .i64 (m0 : Int), .int .i64 0, .int .i64 0, .int .i64 0, .int .i64 0, .int .i64 0, .slice none 0 0, .slice au0 lu0 cu0, .slice none 0 0, .slice none 0 0, .slice none 0 0], #[.int .i64 0, .slice none 0 0])), _)) := hs.1
        have HIf0 := Lib.hid (HIe0.out.trans hs.2)
        clear hs
        have hs := bp_sete (DwF.objD a) HSf0.out 1 (.slice none 0 0)
        have HSg0 : Hid (Sep (Sep (DwF a) (BpF w7.heap.size (w7.heap.size + 1))) HoF (((w5.setCell ⟨w7.heap.size, 9, none⟩ (.slice au0 lu0 cu0)).setCell ⟨w7.heap.size + 1, 0, none⟩ (.int .i64 0)).setCell ⟨w7.heap.size + 1, 1, none⟩ (.slice none 0 0)) _ ((_, (#[.int .i64 3, .int .i64 0, .int .i64 (m0 : Int), .int .i64 0, .int .i64 0, .int .i64 0, .int .i64 0, .int .i64 0, .slice none 0 0, .slice au0 lu0 cu0, .slice none 0 0, .slice none 0 0, .slice none 0 0], #[.int .i64 0, .slice none 0 0])), _)) := hs.1
        have HIg0 := Lib.hid (HIf0.out.trans hs.2)
        clear hs
        go_wp2_with fail
        rw [rounds_succ]
        go_wp2_with fail
        clear s0 s1 s2 s3 s4 s5 s6 s7 s8 s9 s10 s11 s12 p0 p1 p2 p3 p4 p5 p6 p7 p8 p9 p10 p11 p12 f0 f1 f2 f3 f4 f5 f6 f7 f8 f9 f10 f11 f12 ec0 ec1 xf0 xf1
        generalize World.setCell _ _ _ = w9 at HSg0 HIg0 ⊢
        clear HSd0 HSe0 HSf0 HId0 HIe0 HIf0
        refine (ok_any _ _ _).mono ?_; rintro e wka1 ⟨rfl, hxk⟩
        have HSa1 := Lib.hid (Obj.ext (((DwF.objD a).sep (BpF.obj w7.heap.size (w7.heap.size + 1))).sep HoF.obj) HSg0.out hxk)
        have HIa1 := Lib.hid (HIg0.out.ext hxk)
        clear hxk HSg0 HIg0
        obtain ⟨⟨s0, s1, s2, s3, s4, s5, s6, s7, s8, s9, s10, s11, s12⟩, -⟩ := sq_cells (HKP.out _ _ HIa1.out).1.get.1.2
        go_wp2_with fail
        clear s0 s1 s2 s3 s4 s5 s6 s7 s8 s9 s10 s11 s12
        refine (bp_call HSa1.out (fun G hG => UA1.out G _ hG)).mono ?_; rintro e w1 ⟨rfl, G1, h1', st1⟩
        have HSb1 := Lib.hid h1'
        have HIb1 := Lib.hid (HIa1.out.trans st1)
        clear h1' st1 HSa1 HIa1 UA1
        obtain ⟨⟨s0, s1, s2, s3, s4, s5, s6, s7, s8, s9, s10, s11, s12⟩, -⟩ := sq_cells (HKP.out _ _ HIb1.out).1.get.1.2
        obtain ⟨⟨p0, p1, p2, p3, p4, p5, p6, p7, p8, p9, p10, p11, p12⟩, f0, f1, f2, f3, f4, f5, f6, f7, f8, f9, f10, f11, f12⟩ := sq_cells (bp_p HSb1.out).1
        have ec0 := (bp_p HSb1.out).2.cell (i := 0) (v := .int .i64 0) rfl
        have ec1 := (bp_p HSb1.out).2.cell (i := 1) (v := .slice none 0 0) rfl
        have xf0 := (bp_p HSb1.out).2.free (i := 0)
        have xf1 := (bp_p HSb1.out).2.free (i := 1)
        have hs := bp_setp (DwF.objD a) HSb1.out 3 (.int .i64 (m1 : Int))
        have HSc1 : Hid (Sep (Sep (DwF a) (BpF w7.heap.size (w7.heap.size + 1))) HoF (w1.setCell ⟨w7.heap.size, 3, none⟩ (.int .i64 (m1 : Int))) _ ((_, (#[.int .i64 3, .int .i64 0, .int .i64 (m0 : Int), .int .i64 (m1 : Int), .int .i64 0, .int .i64 0, .int .i64 0, .int .i64 0, .slice none 0 0, .slice au0 lu0 cu0, .slice none 0 0, .slice none 0 0, .slice none 0 0], #[.int .i64 0, .slice none 0 0])), _)) := hs.1
        have HIc1 := Lib.hid (HIb1.out.trans hs.2)
        clear hs
        go_wp2_with fail
        clear s0 s1 s2 s3 s4 s5 s6 s7 s8 s9 s10 s11 s12 p0 p1 p2 p3 p4 p5 p6 p7 p8 p9 p10 p11 p12 f0 f1 f2 f3 f4 f5 f6 f7 f8 f9 f10 f11 f12 ec0 ec1 xf0 xf1
        generalize w1.setCell _ _ = w4 at HSc1 HIc1 ⊢
        clear HSb1 HIb1
        obtain ⟨kx, kd⟩ := HKP.out _ _ HIc1.out
        refine (sep_lqF (BpF.obj w7.heap.size (w7.heap.size + 1)) HSc1.out (fun G hG hs => UB1.out _ G _ hG (kx.imp (fun W h => h.2.2.2.1)) (fun k hk hg => kd k hk (hs k hg)))).mono ?_; rintro e w5 ⟨t, P1, G5, ⟨u1, c1, ra1, rn1, rk1, rfl, hp⟩, h5, st5⟩
        obtain ⟨rfl, rfl⟩ := Prod.mk.inj hp
        have HSd1 := Lib.hid h5
        have HId1 := Lib.hid (HIc1.out.trans st5)
        obtain ⟨au1, lu1, cu1, rfl⟩ := (bp_has h5).2.1.slf
        have hx5 := (bp_has h5).2.2
        clear h5 st5 kx kd hp HSc1 HIc1
        clear UB1
        rcases HC1.out with hf | ⟨iq, hf⟩
        · subst hf
          obtain ⟨rfl, hsl⟩ := hx5
          obtain ⟨rfl, rfl, rfl⟩ := by simpa using hsl
          obtain ⟨⟨s0, s1, s2, s3, s4, s5, s6, s7, s8, s9, s10, s11, s12⟩, -⟩ := sq_cells (HKP.out _ _ HId1.out).1.get.1.2
          obtain ⟨⟨p0, p1, p2, p3, p4, p5, p6, p7, p8, p9, p10, p11, p12⟩, f0, f1, f2, f3, f4, f5, f6, f7, f8, f9, f10, f11, f12⟩ := sq_cells (bp_p HSd1.out).1
          have ec0 := (bp_p HSd1.out).2.cell (i := 0) (v := .int .i64 0) rfl
          have ec1 := (bp_p HSd1.out).2.cell (i := 1) (v := .slice none 0 0) rfl
          have xf0 := (bp_p HSd1.out).2.free (i := 0)
          have xf1 := (bp_p HSd1.out).2.free (i := 1)
          have hs := bp_setp (DwF.objD a) HSd1.out 10 (.slice au1 lu1 cu1)
          have HSe1 : Hid (Sep (Sep (DwF a) (BpF w7.heap.size (w7.heap.size + 1))) HoF (w5.setCell ⟨w7.heap.size, 10, none⟩ (.slice au1 lu1 cu1)) _ ((_, (#[.int .i64 3, .int .i64 0, .int .i64 (m0 : Int), .int .i64 (m1 : Int), .int .i64 0, .int .i64 0, .int .i64 0, .int .i64 0, .slice none 0 0, .slice au0 lu0 cu0, .slice au1 lu1 cu1, .slice none 0 0, .slice none 0 0], #[.int .i64 0, .slice none 0 0])), _)) := hs.1
          have HIe1 := Lib.hid (HId1.out.trans hs.2)
          clear hs
          have hs := bp_sete (DwF.objD a) HSe1.out 0 (.int .i64 0)
          have HSf1 : Hid (Sep (Sep (DwF a) (BpF w7.heap.size (w7.heap.size + 1))) HoF ((w5.setCell ⟨w7.heap.size, 10, none⟩ (.slice au1 lu1 cu1)).setCell ⟨w7.heap.size + 1, 0, none⟩ (.int .i64 0)) _ ((_, (#[.int .i64 3, .int .i64 0, .int .i64 (m0 : Int), .int .i64 (m1 : Int), .int .i64 0, .int .i64 0, .int .i64 0, .int .i64 0, .slice none 0 0, .slice au0 lu0 cu0, .slice au1 lu1 cu1, .slice none 0 0, .slice none 0 0], #[.int .i64 0, .slice none 0 0])), _)) := hs.1
          have HIf1 := Lib.hid (HIe1.out.trans hs.2)
          clear hs
          have hs := bp_sete (DwF.objD a) HSf1.out 1 (.slice none 0 0)
          have HSg1 : Hid (Sep (Sep (DwF a) (BpF w7.heap.size (w7.heap.size + 1))) HoF (((w5.setCell ⟨w7.heap.size, 10, none⟩ (.slice au1 lu1 cu1)).setCell ⟨w7.heap.size + 1, 0, none⟩ (.int .i64 0)).setCell ⟨w7.heap.size + 1, 1, none⟩ (.slice none 0 0)) _ ((_, (#[.int .i64 3, .int .i64 0, .int .i64 (m0 : Int), .int .i64 (m1 : Int), .int .i64 0, .int .i64 0, .int .i64 0, .int .i64 0, .slice none 0 0, .slice au0 lu0 cu0, .slice au1 lu1 cu1, .slice none 0 0, .slice none 0 0], #[.int .i64 0, .slice none 0 0])), _)) := hs.1
          have HIg1 := Lib.hid (HIf1.out.trans hs.2)
          clear hs
          go_wp2_with fail
          rw [rounds_succ]
          go_wp2_with fail
          clear s0 s1 s2 s3 s4 s5 s6 s7 s8 s9 s10 s11 s12 p0 p1 p2 p3 p4 p5 p6 p7 p8 p9 p10 p11 p12 f0 f1 f2 f3 f4 f5 f6 f7 f8 f9 f10 f11 f12 ec0 ec1 xf0 xf1
          generalize World.setCell _ _ _ = w9 at HSg1 HIg1 ⊢
          clear HSd1 HSe1 HSf1 HId1 HIe1 HIf1
          refine (ok_any _ _ _).mono ?_; rintro e wka2 ⟨rfl, hxk⟩
          have HSa2 := Lib.hid (Obj.ext (((DwF.objD a).sep (BpF.obj w7.heap.size (w7.heap.size + 1))).sep HoF.obj) HSg1.out hxk)
          have HIa2 := Lib.hid (HIg1.out.ext hxk)
          clear hxk HSg1 HIg1
          obtain ⟨⟨s0, s1, s2, s3, s4, s5, s6, s7, s8, s9, s10, s11, s12⟩, -⟩ := sq_cells (HKP.out _ _ HIa2.out).1.get.1.2
          go_wp2_with fail
          clear s0 s1 s2 s3 s4 s5 s6 s7 s8 s9 s10 s11 s12
          refine (bp_call HSa2.out (fun G hG => UA2.out G _ hG)).mono ?_; rintro e w1 ⟨rfl, G1, h1', st1⟩
          have HSb2 := Lib.hid h1'
          have HIb2 := Lib.hid (HIa2.out.trans st1)
          clear h1' st1 HSa2 HIa2 UA2
          obtain ⟨⟨s0, s1, s2, s3, s4, s5, s6, s7, s8, s9, s10, s11, s12⟩, -⟩ := sq_cells (HKP.out _ _ HIb2.out).1.get.1.2
          obtain ⟨⟨p0, p1, p2, p3, p4, p5, p6, p7, p8, p9, p10, p11, p12⟩, f0, f1, f2, f3, f4, f5, f6, f7, f8, f9, f10, f11, f12⟩ := sq_cells (bp_p HSb2.out).1
          have ec0 := (bp_p HSb2.out).2.cell (i := 0) (v := .int .i64 0) rfl
          have ec1 := (bp_p HSb2.out).2.cell (i := 1) (v := .slice none 0 0) rfl
          have xf0 := (bp_p HSb2.out).2.free (i := 0)
          have xf1 := (bp_p HSb2.out).2.free (i := 1)
          have hs := bp_setp (DwF.objD a) HSb2.out 4 (.int .i64 (m2 : Int))
          have HSc2 : Hid (Sep (Sep (DwF a) (BpF w7.heap.size (w7.heap.size + 1))) HoF (w1.setCell ⟨w7.heap.size, 4, none⟩ (.int .i64 (m2 : Int))) _ ((_, (#[.int .i64 3, .int .i64 0, .int .i64 (m0 : Int), .int .i64 (m1 : Int), .int .i64 (m2 : Int), .int .i64 0, .int .i64 0, .int .i64 0, .slice none 0 0, .slice au0 lu0 cu0, .slice au1 lu1 cu1, .slice none 0 0, .slice none 0 0], #[.int .i64 0, .slice none 0 0])), _)) := hs.1
          have HIc2 := Lib.hid (HIb2.out.trans hs.2)
          clear hs
          go_wp2_with fail
          clear s0 s1 s2 s3 s4 s5 s6 s7 s8 s9 s10 s11 s12 p0 p1 p2 p3 p4 p5 p6 p7 p8 p9 p10 p11 p12 f0 f1 f2 f3 f4 f5 f6 f7 f8 f9 f10 f11 f12 ec0 ec1 xf0 xf1
          generalize w1.setCell _ _ = w4 at HSc2 HIc2 ⊢
          clear HSb2 HIb2
          obtain ⟨kx, kd⟩ := HKP.out _ _ HIc2.out
          refine (sep_lqF (BpF.obj w7.heap.size (w7.heap.size + 1)) HSc2.out (fun G hG hs => UB2.out _ G _ hG (kx.imp (fun W h => h.2.2.2.2.1)) (fun k hk hg => kd k hk (hs k hg)))).mono ?_; rintro e w5 ⟨t, P2, G5, ⟨u2, c2, ra2, rn2, rk2, rfl, hp⟩, h5, st5⟩
          obtain ⟨rfl, rfl⟩ := Prod.mk.inj hp
          have HSd2 := Lib.hid h5
          have HId2 := Lib.hid (HIc2.out.trans st5)
          obtain ⟨au2, lu2, cu2, rfl⟩ := (bp_has h5).2.1.slf
          have hx5 := (bp_has h5).2.2
          clear h5 st5 kx kd hp HSc2 HIc2
          clear UB2
          rcases HC2.out with hf | ⟨iq, hf⟩
          · subst hf
            obtain ⟨rfl, hsl⟩ := hx5
            obtain ⟨rfl, rfl, rfl⟩ := by simpa using hsl
            obtain ⟨⟨s0, s1, s2, s3, s4, s5, s6, s7, s8, s9, s10, s11, s12⟩, -⟩ := sq_cells (HKP.out _ _ HId2.out).1.get.1.2
            obtain ⟨⟨p0, p1, p2, p3, p4, p5, p6, p7, p8, p9, p10, p11, p12⟩, f0, f1, f2, f3, f4, f5, f6, f7, f8, f9, f10, f11, f12⟩ := sq_cells (bp_p HSd2.out).1
            have ec0 := (bp_p HSd2.out).2.cell (i := 0) (v := .int .i64 0) rfl
            have ec1 := (bp_p HSd2.out).2.cell (i := 1) (v := .slice none 0 0) rfl
            have xf0 := (bp_p HSd2.out).2.free (i := 0)
            have xf1 := (bp_p HSd2.out).2.free (i := 1)
            have hs := bp_setp (DwF.objD a) HSd2.out 11 (.slice au2 lu2 cu2)
            have HSe2 : Hid (Sep (Sep (DwF a) (BpF w7.heap.size (w7.heap.size + 1))) HoF (w5.setCell ⟨w7.heap.size, 11, none⟩ (.slice au2 lu2 cu2)) _ ((_, (#[.int .i64 3, .int .i64 0, .int .i64 (m0 : Int), .int .i64 (m1 : Int), .int .i64 (m2 : Int), .int .i64 0, .int .i64 0, .int .i64 0, .slice none 0 0, .slice au0 lu0 cu0, .slice au1 lu1 cu1, .slice au2 lu2 cu2, .slice none 0 0], #[.int .i64 0, .slice none 0 0])), _)) := hs.1
            have HIe2 := Lib.hid (HId2.out.trans hs.2)
            clear hs
            have hs := bp_sete (DwF.objD a) HSe2.out 0 (.int .i64 0)
            have HSf2 : Hid (Sep (Sep (DwF a) (BpF w7.heap.size (w7.heap.size + 1))) HoF ((w5.setCell ⟨w7.heap.size, 11, none⟩ (.slice au2 lu2 cu2)).setCell ⟨w7.heap.size + 1, 0, none⟩ (.int .i64 0)) _ ((_, (#[.int .i64 3, .int .i64 0, .int .i64 (m0 : Int), .int .i64 (m1 : Int), .int .i64 (m2 : Int), .int .i64 0, .int .i64 0, .int .i64 0, .slice none 0 0, .slice au0 lu0 cu0, .slice au1 lu1 cu1, .slice au2 lu2 cu2, .slice none 0 0], #[.int .i64 0, .slice none 0 0])), _)) := hs.1
            have HIf2 := Lib.hid (HIe2.out.trans hs.2)
            clear hs
            have hs := bp_sete (DwF.objD a) HSf2.out 1 (.slice none 0 0)
            have HSg2 : Hid (Sep (Sep (DwF a) (BpF w7.heap.size (w7.heap.size + 1))) HoF (((w5.setCell ⟨w7.heap.size, 11, none⟩ (.slice au2 lu2 cu2)).setCell ⟨w7.heap.size + 1, 0, none⟩ (.int .i64 0)).setCell ⟨w7.heap.size + 1, 1, none⟩ (.slice none 0 0)) _ ((_, (#[.int .i64 3, .int .i64 0, .int .i64 (m0 : Int), .int .i64 (m1 : Int), .int .i64 (m2 : Int), .int .i64 0, .int .i64 0, .int .i64 0, .slice none 0 0, .slice au0 lu0 cu0, .slice au1 lu1 cu1, .slice au2 lu2 cu2, .slice none 0 0], #[.int .i64 0, .slice none 0 0])), _)) := hs.1
            have HIg2 := Lib.hid (HIf2.out.trans hs.2)
            clear hs
            go_wp2_with fail
            rw [rounds_succ]
            go_wp2_with fail
            clear s0 s1 s2 s3 s4 s5 s6 s7 s8 s9 s10 s11 s12 p0 p1 p2 p3 p4 p5 p6 p7 p8 p9 p10 p11 p12 f0 f1 f2 f3 f4 f5 f6 f7 f8 f9 f10 f11 f12 ec0 ec1 xf0 xf1
            generalize World.setCell _ _ _ = w9 at HSg2 HIg2 ⊢
            clear HSd2 HSe2 HSf2 HId2 HIe2 HIf2
            refine (ok_any _ _ _).mono ?_; rintro e wka3 ⟨rfl, hxk⟩
            have HSa3 := Lib.hid (Obj.ext (((DwF.objD a).sep (BpF.obj w7.heap.size (w7.heap.size + 1))).sep HoF.obj) HSg2.out hxk)
            have HIa3 := Lib.hid (HIg2.out.ext hxk)
            clear hxk HSg2 HIg2
            obtain ⟨⟨s0, s1, s2, s3, s4, s5, s6, s7, s8, s9, s10, s11, s12⟩, -⟩ := sq_cells (HKP.out _ _ HIa3.out).1.get.1.2
            go_wp2_with fail
            clear s0 s1 s2 s3 s4 s5 s6 s7 s8 s9 s10 s11 s12
            refine (bp_call HSa3.out (fun G hG => UA3.out G _ hG)).mono ?_; rintro e w1 ⟨rfl, G1, h1', st1⟩
            have HSb3 := Lib.hid h1'
            have HIb3 := Lib.hid (HIa3.out.trans st1)
            clear h1' st1 HSa3 HIa3 UA3
            obtain ⟨⟨s0, s1, s2, s3, s4, s5, s6, s7, s8, s9, s10, s11, s12⟩, -⟩ := sq_cells (HKP.out _ _ HIb3.out).1.get.1.2
            obtain ⟨⟨p0, p1, p2, p3, p4, p5, p6, p7, p8, p9, p10, p11, p12⟩, f0, f1, f2, f3, f4, f5, f6, f7, f8, f9, f10, f11, f12⟩ := sq_cells (bp_p HSb3.out).1
            have ec0 := (bp_p HSb3.out).2.cell (i := 0) (v := .int .i64 0) rfl
            have ec1 := (bp_p HSb3.out).2.cell (i := 1) (v := .slice none 0 0) rfl
            have xf0 := (bp_p HSb3.out).2.free (i := 0)
            have xf1 := (bp_p HSb3.out).2.free (i := 1)
            have hs := bp_setp (DwF.objD a) HSb3.out 5 (.int .i64 (m3 : Int))
            have HSc3 : Hid (Sep (Sep (DwF a) (BpF w7.heap.size (w7.heap.size + 1))) HoF (w1.setCell ⟨w7.heap.size, 5, none⟩ (.int .i64 (m3 : Int))) _ ((_, (#[.int .i64 3, .int .i64 0, .int .i64 (m0 : Int), .int .i64 (m1 : Int), .int .i64 (m2 : Int), .int .i64 (m3 : Int), .int .i64 0, .int .i64 0, .slice none 0 0, .slice au0 lu0 cu0, .slice au1 lu1 cu1, .slice au2 lu2 cu2, .slice none 0 0], #[.int .i64 0, .slice none 0 0])), _)) := hs.1
            have HIc3 := Lib.hid (HIb3.out.trans hs.2)
            clear hs
            go_wp2_with fail
            clear s0 s1 s2 s3 s4 s5 s6 s7 s8 s9 s10 s11 s12 p0 p1 p2 p3 p4 p5 p6 p7 p8 p9 p10 p11 p12 f0 f1 f2 f3 f4 f5 f6 f7 f8 f9 f10 f11 f12 ec0 ec1 xf0 xf1
            generalize w1.setCell _ _ = w4 at HSc3 HIc3 ⊢
            clear HSb3 HIb3
            obtain ⟨kx, kd⟩ := HKP.out _ _ HIc3.out
            refine (sep_lqF (BpF.obj w7.heap.size (w7.heap.size + 1)) HSc3.out (fun G hG hs => UB3.out _ G _ hG (kx.imp (fun W h => h.2.2.2.2.2)) (fun k hk hg => kd k hk (hs k hg)))).mono ?_; rintro e w5 ⟨t, P3, G5, ⟨u3, c3, ra3, rn3, rk3, rfl, hp⟩, h5, st5⟩
            obtain ⟨rfl, rfl⟩ := Prod.mk.inj hp
            have HSd3 := Lib.hid h5
            have HId3 := Lib.hid (HIc3.out.trans st5)
            obtain ⟨au3, lu3, cu3, rfl⟩ := (bp_has h5).2.1.slf
            have hx5 := (bp_has h5).2.2
            clear h5 st5 kx kd hp HSc3 HIc3
            clear UB3
            rcases HC3.out with hf | ⟨iq, hf⟩
            · subst hf
              obtain ⟨rfl, hsl⟩ := hx5
              obtain ⟨rfl, rfl, rfl⟩ := by simpa using hsl
              obtain ⟨⟨s0, s1, s2, s3, s4, s5, s6, s7, s8, s9, s10, s11, s12⟩, -⟩ := sq_cells (HKP.out _ _ HId3.out).1.get.1.2
              obtain ⟨⟨p0, p1, p2, p3, p4, p5, p6, p7, p8, p9, p10, p11, p12⟩, f0, f1, f2, f3, f4, f5, f6, f7, f8, f9, f10, f11, f12⟩ := sq_cells (bp_p HSd3.out).1
              have ec0 := (bp_p HSd3.out).2.cell (i := 0) (v := .int .i64 0) rfl
              have ec1 := (bp_p HSd3.out).2.cell (i := 1) (v := .slice none 0 0) rfl
              have xf0 := (bp_p HSd3.out).2.free (i := 0)
              have xf1 := (bp_p HSd3.out).2.free (i := 1)
              have hs := bp_setp (DwF.objD a) HSd3.out 12 (.slice au3 lu3 cu3)
              have HSe3 : Hid (Sep (Sep (DwF a) (BpF w7.heap.size (w7.heap.size + 1))) HoF (w5.setCell ⟨w7.heap.size, 12, none⟩ (.slice au3 lu3 cu3)) _ ((_, (#[.int .i64 3, .int .i64 0, .int .i64 (m0 : Int), .int .i64 (m1 : Int), .int .i64 (m2 : Int), .int .i64 (m3 : Int), .int .i64 0, .int .i64 0, .slice none 0 0, .slice au0 lu0 cu0, .slice au1 lu1 cu1, .slice au2 lu2 cu2, .slice au3 lu3 cu3], #[.int .i64 0, .slice none 0 0])), _)) := hs.1
              have HIe3 := Lib.hid (HId3.out.trans hs.2)
              clear hs
              have hs := bp_sete (DwF.objD a) HSe3.out 0 (.int .i64 0)
              have HSf3 : Hid (Sep (Sep (DwF a) (BpF w7.heap.size (w7.heap.size + 1))) HoF ((w5.setCell ⟨w7.heap.size, 12, none⟩ (.slice au3 lu3 cu3)).setCell ⟨w7.heap.size + 1, 0, none⟩ (.int .i64 0)) _ ((_, (#[.int .i64 3, .int .i64 0, .int .i64 (m0 : Int), .int .i64 (m1 : Int), .int .i64 (m2 : Int), .int .i64 (m3 : Int), .int .i64 0, .int .i64 0, .slice none 0 0, .slice au0 lu0 cu0, .slice au1 lu1 cu1, .slice au2 lu2 cu2, .slice au3 lu3 cu3], #[.int .i64 0, .slice none 0 0])), _)) := hs.1
              have HIf3 := Lib.hid (HIe3.out.trans hs.2)
              clear hs
              have hs := bp_sete (DwF.objD a) HSf3.out 1 (.slice none 0 0)
              have HSg3 : Hid (Sep (Sep (DwF a) (BpF w7.heap.size (w7.heap.size + 1))) HoF (((w5.setCell ⟨w7.heap.size, 12, none⟩ (.slice au3 lu3 cu3)).setCell ⟨w7.heap.size + 1, 0, none⟩ (.int .i64 0)).setCell ⟨w7.heap.size + 1, 1, none⟩ (.slice none 0 0)) _ ((_, (#[.int .i64 3, .int .i64 0, .int .i64 (m0 : Int), .int .i64 (m1 : Int), .int .i64 (m2 : Int), .int .i64 (m3 : Int), .int .i64 0, .int .i64 0, .slice none 0 0, .slice au0 lu0 cu0, .slice au1 lu1 cu1, .slice au2 lu2 cu2, .slice au3 lu3 cu3], #[.int .i64 0, .slice none 0 0])), _)) := hs.1
              have HIg3 := Lib.hid (HIf3.out.trans hs.2)
              clear hs
              go_wp2_with fail
              rw [rounds_succ]
              go_wp2_with fail
              clear s0 s1 s2 s3 s4 s5 s6 s7 s8 s9 s10 s11 s12 p0 p1 p2 p3 p4 p5 p6 p7 p8 p9 p10 p11 p12 f0 f1 f2 f3 f4 f5 f6 f7 f8 f9 f10 f11 f12 ec0 ec1 xf0 xf1
              generalize World.setCell _ _ _ = w9 at HSg3 HIg3 ⊢
              clear HSd3 HSe3 HSf3 HId3 HIe3 HIf3
              have HA := Lib.hid (sq_run_ok HEK.out ((((HRUN.out.2 (by first | rfl | trivial)).2 (by first | rfl | trivial)).2 (by first | rfl | trivial)).2 (by first | rfl | trivial)))
              refine (ok_any _ _ _).mono ?_; rintro e wk ⟨rfl, hxk⟩
              have HSk := Lib.hid (Obj.ext (((DwF.objD a).sep (BpF.obj w7.heap.size (w7.heap.size + 1))).sep HoF.obj) HSg3.out hxk)
              have HIk := Lib.hid (HIg3.out.ext hxk)
              clear hxk HSg3 HIg3
              go_wp2_with fail
              obtain ⟨qa, qd⟩ := HKP.out _ _ HIk.out
              have HRB := Lib.hid qa.get.1.1.1
              have HEB := Lib.hid qa.get.1.1.2
              have HN1 := Lib.hid (qd (w.heap.size + 1) (.inl (.inl (.inl rfl))))
              have HN2 := Lib.hid (qd (w.heap.size + 2) (.inl (.inl (.inr rfl))))
              clear qa qd
              have HPB := Lib.hid (bp_p HSk.out).1
              have HXB := Lib.hid (bp_p HSk.out).2
              have hne1 : w.heap.size + 1 ≠ w7.heap.size := fun e => HN1.out (by rw [e]; exact bp_in HSk.out (.inl rfl))
              have hne2 : w.heap.size + 1 ≠ w7.heap.size + 1 := fun e => HN1.out (by rw [e]; exact bp_in HSk.out (.inr rfl))
              have hne3 : w.heap.size + 2 ≠ w7.heap.size := fun e => HN2.out (by rw [e]; exact bp_in HSk.out (.inl rfl))
              have hne4 : w.heap.size + 2 ≠ w7.heap.size + 1 := fun e => HN2.out (by rw [e]; exact bp_in HSk.out (.inr rfl))
              refine wp_region_held_drew (S := fun w' => w'.cell? ⟨w7.heap.size, 0, none⟩ = some (.int .i64 3) ∧ w'.cell? ⟨w7.heap.size, 1, none⟩ = some (.int .i64 0) ∧ w'.cell? ⟨w7.heap.size, 2, none⟩ = some (.int .i64 (m0 : Int)) ∧ w'.cell? ⟨w7.heap.size, 3, none⟩ = some (.int .i64 (m1 : Int)) ∧ w'.cell? ⟨w7.heap.size, 4, none⟩ = some (.int .i64 (m2 : Int)) ∧ w'.cell? ⟨w7.heap.size, 5, none⟩ = some (.int .i64 (m3 : Int)) ∧ w'.cell? ⟨w7.heap.size, 6, none⟩ = some (.int .i64 0) ∧ w'.cell? ⟨w7.heap.size, 7, none⟩ = some (.int .i64 0) ∧ w'.cell? ⟨w7.heap.size, 8, none⟩ = some (.slice none 0 0) ∧ w'.cell? ⟨w7.heap.size, 9, none⟩ = some (.slice au0 lu0 cu0) ∧ w'.cell? ⟨w7.heap.size, 10, none⟩ = some (.slice au1 lu1 cu1) ∧ w'.cell? ⟨w7.heap.size, 11, none⟩ = some (.slice au2 lu2 cu2) ∧ w'.cell? ⟨w7.heap.size, 12, none⟩ = some (.slice au3 lu3 cu3) ∧ w'.cell? ⟨w7.heap.size + 1, 0, none⟩ = some (.int .i64 0) ∧ w'.cell? ⟨w7.heap.size + 1, 1, none⟩ = some (.slice none 0 0)) (by kernel_rfl) (⟨(HPB.out.ext ((Ext.refl _).drew)).cell rfl, (HPB.out.ext ((Ext.refl _).drew)).cell rfl, (HPB.out.ext ((Ext.refl _).drew)).cell rfl, (HPB.out.ext ((Ext.refl _).drew)).cell rfl, (HPB.out.ext ((Ext.refl _).drew)).cell rfl, (HPB.out.ext ((Ext.refl _).drew)).cell rfl, (HPB.out.ext ((Ext.refl _).drew)).cell rfl, (HPB.out.ext ((Ext.refl _).drew)).cell rfl, (HPB.out.ext ((Ext.refl _).drew)).cell rfl, (HPB.out.ext ((Ext.refl _).drew)).cell rfl, (HPB.out.ext ((Ext.refl _).drew)).cell rfl, (HPB.out.ext ((Ext.refl _).drew)).cell rfl, (HPB.out.ext ((Ext.refl _).drew)).cell rfl, (HXB.out.ext ((Ext.refl _).drew)).cell rfl, (HXB.out.ext ((Ext.refl _).drew)).cell rfl⟩) (fun hHeld => ?_)
              refine wpAnyH_take (i := 0) (oi := { dst := some 125, op := Op.load 42 (Operand.tmp 10), type := 42, pos := "ref.go:147", after := #[], guard := none }) (v := ?_) rfl (by kernel_rfl) (by kernel_rfl) (by kernel_rfl) (fun _ _ _ h => h) (Or.inl ⟨by rfl, ?_⟩) (by assumption) ?_
              case refine_2 => (intro w hSw; (try dsimp only at hSw); go_simp; (try with_reducible rfl))
              try simp only [Act.put, List.setIfInBounds_toArray, List.set_cons_zero, List.set_cons_succ]
              refine wpAnyH_take (i := 1) (oi := { dst := some 126, op := Op.load 46 (Operand.tmp 11), type := 46, pos := "ref.go:147", after := #[{ on := 2, ground := Ground.gcOnly Departure.lateStores }], guard := none }) (v := ?_) rfl (by kernel_rfl) (by kernel_rfl) (by kernel_rfl) (fun _ _ _ h => h) (Or.inl ⟨by rfl, ?_⟩) (by assumption) ?_
              case refine_2 => (intro w hSw; (try dsimp only at hSw); go_simp; (try with_reducible rfl))
              try simp only [Act.put, List.setIfInBounds_toArray, List.set_cons_zero, List.set_cons_succ]
              obtain ⟨⟨e0, e1, e2, e3, e4, e5, e6, e7, e8, e9, e10, e11, e12⟩, f0, f1, f2, f3, f4, f5, f6, f7, f8, f9, f10, f11, f12⟩ := sq_cells HRB.out
              refine wpAnyH_ready (rs := [2]) (by kernel_rfl) (by simp) ?_
              refine AllReadyH.cons (o := { dst := none, op := Op.store 42 (Operand.tmp 6) (Operand.tmp 125), type := 0, pos := "ref.go:147", after := #[{ on := 0, ground := Ground.data }, { on := 0, ground := Ground.phase }, { on := 1, ground := Ground.textOnly Departure.lateStores }], guard := none }) rfl (fun K hK => ?_) AllReadyH.nil
              go_simp
              refine hK.out _ _ (⟨((set13_other HPB.out hne1 (.int .i64 3) (.int .i64 0) (.int .i64 (m0 : Int)) (.int .i64 (m1 : Int)) (.int .i64 (m2 : Int)) (.int .i64 (m3 : Int)) (.int .i64 0) (.int .i64 0) (.slice none 0 0) (.slice au0 lu0 cu0) (.slice au1 lu1 cu1) (.slice au2 lu2 cu2) (.slice au3 lu3 cu3)).ext ((Ext.refl _).drew)).cell rfl, ((set13_other HPB.out hne1 (.int .i64 3) (.int .i64 0) (.int .i64 (m0 : Int)) (.int .i64 (m1 : Int)) (.int .i64 (m2 : Int)) (.int .i64 (m3 : Int)) (.int .i64 0) (.int .i64 0) (.slice none 0 0) (.slice au0 lu0 cu0) (.slice au1 lu1 cu1) (.slice au2 lu2 cu2) (.slice au3 lu3 cu3)).ext ((Ext.refl _).drew)).cell rfl, ((set13_other HPB.out hne1 (.int .i64 3) (.int .i64 0) (.int .i64 (m0 : Int)) (.int .i64 (m1 : Int)) (.int .i64 (m2 : Int)) (.int .i64 (m3 : Int)) (.int .i64 0) (.int .i64 0) (.slice none 0 0) (.slice au0 lu0 cu0) (.slice au1 lu1 cu1) (.slice au2 lu2 cu2) (.slice au3 lu3 cu3)).ext ((Ext.refl _).drew)).cell rfl, ((set13_other HPB.out hne1 (.int .i64 3) (.int .i64 0) (.int .i64 (m0 : Int)) (.int .i64 (m1 : Int)) (.int .i64 (m2 : Int)) (.int .i64 (m3 : Int)) (.int .i64 0) (.int .i64 0) (.slice none 0 0) (.slice au0 lu0 cu0) (.slice au1 lu1 cu1) (.slice au2 lu2 cu2) (.slice au3 lu3 cu3)).ext ((Ext.refl _).drew)).cell rfl, ((set13_other HPB.out hne1 (.int .i64 3) (.int .i64 0) (.int .i64 (m0 : Int)) (.int .i64 (m1 : Int)) (.int .i64 (m2 : Int)) (.int .i64 (m3 : Int)) (.int .i64 0) (.int .i64 0) (.slice none 0 0) (.slice au0 lu0 cu0) (.slice au1 lu1 cu1) (.slice au2 lu2 cu2) (.slice au3 lu3 cu3)).ext ((Ext.refl _).drew)).cell rfl, ((set13_other HPB.out hne1 (.int .i64 3) (.int .i64 0) (.int .i64 (m0 : Int)) (.int .i64 (m1 : Int)) (.int .i64 (m2 : Int)) (.int .i64 (m3 : Int)) (.int .i64 0) (.int .i64 0) (.slice none 0 0) (.slice au0 lu0 cu0) (.slice au1 lu1 cu1) (.slice au2 lu2 cu2) (.slice au3 lu3 cu3)).ext ((Ext.refl _).drew)).cell rfl, ((set13_other HPB.out hne1 (.int .i64 3) (.int .i64 0) (.int .i64 (m0 : Int)) (.int .i64 (m1 : Int)) (.int .i64 (m2 : Int)) (.int .i64 (m3 : Int)) (.int .i64 0) (.int .i64 0) (.slice none 0 0) (.slice au0 lu0 cu0) (.slice au1 lu1 cu1) (.slice au2 lu2 cu2) (.slice au3 lu3 cu3)).ext ((Ext.refl _).drew)).cell rfl, ((set13_other HPB.out hne1 (.int .i64 3) (.int .i64 0) (.int .i64 (m0 : Int)) (.int .i64 (m1 : Int)) (.int .i64 (m2 : Int)) (.int .i64 (m3 : Int)) (.int .i64 0) (.int .i64 0) (.slice none 0 0) (.slice au0 lu0 cu0) (.slice au1 lu1 cu1) (.slice au2 lu2 cu2) (.slice au3 lu3 cu3)).ext ((Ext.refl _).drew)).cell rfl, ((set13_other HPB.out hne1 (.int .i64 3) (.int .i64 0) (.int .i64 (m0 : Int)) (.int .i64 (m1 : Int)) (.int .i64 (m2 : Int)) (.int .i64 (m3 : Int)) (.int .i64 0) (.int .i64 0) (.slice none 0 0) (.slice au0 lu0 cu0) (.slice au1 lu1 cu1) (.slice au2 lu2 cu2) (.slice au3 lu3 cu3)).ext ((Ext.refl _).drew)).cell rfl, ((set13_other HPB.out hne1 (.int .i64 3) (.int .i64 0) (.int .i64 (m0 : Int)) (.int .i64 (m1 : Int)) (.int .i64 (m2 : Int)) (.int .i64 (m3 : Int)) (.int .i64 0) (.int .i64 0) (.slice none 0 0) (.slice au0 lu0 cu0) (.slice au1 lu1 cu1) (.slice au2 lu2 cu2) (.slice au3 lu3 cu3)).ext ((Ext.refl _).drew)).cell rfl, ((set13_other HPB.out hne1 (.int .i64 3) (.int .i64 0) (.int .i64 (m0 : Int)) (.int .i64 (m1 : Int)) (.int .i64 (m2 : Int)) (.int .i64 (m3 : Int)) (.int .i64 0) (.int .i64 0) (.slice none 0 0) (.slice au0 lu0 cu0) (.slice au1 lu1 cu1) (.slice au2 lu2 cu2) (.slice au3 lu3 cu3)).ext ((Ext.refl _).drew)).cell rfl, ((set13_other HPB.out hne1 (.int .i64 3) (.int .i64 0) (.int .i64 (m0 : Int)) (.int .i64 (m1 : Int)) (.int .i64 (m2 : Int)) (.int .i64 (m3 : Int)) (.int .i64 0) (.int .i64 0) (.slice none 0 0) (.slice au0 lu0 cu0) (.slice au1 lu1 cu1) (.slice au2 lu2 cu2) (.slice au3 lu3 cu3)).ext ((Ext.refl _).drew)).cell rfl, ((set13_other HPB.out hne1 (.int .i64 3) (.int .i64 0) (.int .i64 (m0 : Int)) (.int .i64 (m1 : Int)) (.int .i64 (m2 : Int)) (.int .i64 (m3 : Int)) (.int .i64 0) (.int .i64 0) (.slice none 0 0) (.slice au0 lu0 cu0) (.slice au1 lu1 cu1) (.slice au2 lu2 cu2) (.slice au3 lu3 cu3)).ext ((Ext.refl _).drew)).cell rfl, ((set13_other HXB.out hne2 (.int .i64 3) (.int .i64 0) (.int .i64 (m0 : Int)) (.int .i64 (m1 : Int)) (.int .i64 (m2 : Int)) (.int .i64 (m3 : Int)) (.int .i64 0) (.int .i64 0) (.slice none 0 0) (.slice au0 lu0 cu0) (.slice au1 lu1 cu1) (.slice au2 lu2 cu2) (.slice au3 lu3 cu3)).ext ((Ext.refl _).drew)).cell rfl, ((set13_other HXB.out hne2 (.int .i64 3) (.int .i64 0) (.int .i64 (m0 : Int)) (.int .i64 (m1 : Int)) (.int .i64 (m2 : Int)) (.int .i64 (m3 : Int)) (.int .i64 0) (.int .i64 0) (.slice none 0 0) (.slice au0 lu0 cu0) (.slice au1 lu1 cu1) (.slice au2 lu2 cu2) (.slice au3 lu3 cu3)).ext ((Ext.refl _).drew)).cell rfl⟩) (fun hHeld => ?_)
              clear hK K
              try simp only [Act.put, List.setIfInBounds_toArray, List.set_cons_zero, List.set_cons_succ]
              have ey0 := (set13_other HEB.out h12 (.int .i64 3) (.int .i64 0) (.int .i64 (m0 : Int)) (.int .i64 (m1 : Int)) (.int .i64 (m2 : Int)) (.int .i64 (m3 : Int)) (.int .i64 0) (.int .i64 0) (.slice none 0 0) (.slice au0 lu0 cu0) (.slice au1 lu1 cu1) (.slice au2 lu2 cu2) (.slice au3 lu3 cu3)).cell (i := 0) (v := .int .i64 0) rfl
              have ey1 := (set13_other HEB.out h12 (.int .i64 3) (.int .i64 0) (.int .i64 (m0 : Int)) (.int .i64 (m1 : Int)) (.int .i64 (m2 : Int)) (.int .i64 (m3 : Int)) (.int .i64 0) (.int .i64 0) (.slice none 0 0) (.slice au0 lu0 cu0) (.slice au1 lu1 cu1) (.slice au2 lu2 cu2) (.slice au3 lu3 cu3)).cell (i := 1) (v := .slice none 0 0) rfl
              have yf0 := (set13_other HEB.out h12 (.int .i64 3) (.int .i64 0) (.int .i64 (m0 : Int)) (.int .i64 (m1 : Int)) (.int .i64 (m2 : Int)) (.int .i64 (m3 : Int)) (.int .i64 0) (.int .i64 0) (.slice none 0 0) (.slice au0 lu0 cu0) (.slice au1 lu1 cu1) (.slice au2 lu2 cu2) (.slice au3 lu3 cu3)).free (i := 0)
              have yf1 := (set13_other HEB.out h12 (.int .i64 3) (.int .i64 0) (.int .i64 (m0 : Int)) (.int .i64 (m1 : Int)) (.int .i64 (m2 : Int)) (.int .i64 (m3 : Int)) (.int .i64 0) (.int .i64 0) (.slice none 0 0) (.slice au0 lu0 cu0) (.slice au1 lu1 cu1) (.slice au2 lu2 cu2) (.slice au3 lu3 cu3)).free (i := 1)
              clear e0 e1 e2 e3 e4 e5 e6 e7 e8 e9 e10 e11 e12 f0 f1 f2 f3 f4 f5 f6 f7 f8 f9 f10 f11 f12
              refine wpAnyH_ready (rs := [3]) (by kernel_rfl) (by simp) ?_
              refine AllReadyH.cons (o := { dst := none, op := Op.store 46 (Operand.tmp 7) (Operand.tmp 126), type := 0, pos := "ref.go:147", after := #[{ on := 1, ground := Ground.data }, { on := 2, ground := Ground.chain }, { on := 0, ground := Ground.phase }, { on := 1, ground := Ground.phase }, { on := 2, ground := Ground.phase }], guard := none }) rfl (fun K hK => ?_) AllReadyH.nil
              go_simp
              refine hK.out _ _ (⟨((((set13_other HPB.out hne1 (.int .i64 3) (.int .i64 0) (.int .i64 (m0 : Int)) (.int .i64 (m1 : Int)) (.int .i64 (m2 : Int)) (.int .i64 (m3 : Int)) (.int .i64 0) (.int .i64 0) (.slice none 0 0) (.slice au0 lu0 cu0) (.slice au1 lu1 cu1) (.slice au2 lu2 cu2) (.slice au3 lu3 cu3)).other (p := ⟨w.heap.size + 2, 0, none⟩) hne3 _).other (p := ⟨w.heap.size + 2, 1, none⟩) hne3 _).ext ((Ext.refl _).drew)).cell rfl, ((((set13_other HPB.out hne1 (.int .i64 3) (.int .i64 0) (.int .i64 (m0 : Int)) (.int .i64 (m1 : Int)) (.int .i64 (m2 : Int)) (.int .i64 (m3 : Int)) (.int .i64 0) (.int .i64 0) (.slice none 0 0) (.slice au0 lu0 cu0) (.slice au1 lu1 cu1) (.slice au2 lu2 cu2) (.slice au3 lu3 cu3)).other (p := ⟨w.heap.size + 2, 0, none⟩) hne3 _).other (p := ⟨w.heap.size + 2, 1, none⟩) hne3 _).ext ((Ext.refl _).drew)).cell rfl, ((((set13_other HPB.out hne1 (.int .i64 3) (.int .i64 0) (.int .i64 (m0 : Int)) (.int .i64 (m1 : Int)) (.int .i64 (m2 : Int)) (.int .i64 (m3 : Int)) (.int .i64 0) (.int .i64 0) (.slice none 0 0) (.slice au0 lu0 cu0) (.slice au1 lu1 cu1) (.slice au2 lu2 cu2) (.slice au3 lu3 cu3)).other (p := ⟨w.heap.size + 2, 0, none⟩) hne3 _).other (p := ⟨w.heap.size + 2, 1, none⟩) hne3 _).ext ((Ext.refl _).drew)).cell rfl, ((((set13_other HPB.out hne1 (.int .i64 3) (.int .i64 0) (.int .i64 (m0 : Int)) (.int .i64 (m1 : Int)) (.int .i64 (m2 : Int)) (.int .i64 (m3 : Int)) (.int .i64 0) (.int .i64 0) (.slice none 0 0) (.slice au0 lu0 cu0) (.slice au1 lu1 cu1) (.slice au2 lu2 cu2) (.slice au3 lu3 cu3)).other (p := ⟨w.heap.size + 2, 0, none⟩) hne3 _).other (p := ⟨w.heap.size + 2, 1, none⟩) hne3 _).ext ((Ext.refl _).drew)).cell rfl, ((((set13_other HPB.out hne1 (.int .i64 3) (.int .i64 0) (.int .i64 (m0 : Int)) (.int .i64 (m1 : Int)) (.int .i64 (m2 : Int)) (.int .i64 (m3 : Int)) (.int .i64 0) (.int .i64 0) (.slice none 0 0) (.slice au0 lu0 cu0) (.slice au1 lu1 cu1) (.slice au2 lu2 cu2) (.slice au3 lu3 cu3)).other (p := ⟨w.heap.size + 2, 0, none⟩) hne3 _).other (p := ⟨w.heap.size + 2, 1, none⟩) hne3 _).ext ((Ext.refl _).drew)).cell rfl, ((((set13_other HPB.out hne1 (.int .i64 3) (.int .i64 0) (.int .i64 (m0 : Int)) (.int .i64 (m1 : Int)) (.int .i64 (m2 : Int)) (.int .i64 (m3 : Int)) (.int .i64 0) (.int .i64 0) (.slice none 0 0) (.slice au0 lu0 cu0) (.slice au1 lu1 cu1) (.slice au2 lu2 cu2) (.slice au3 lu3 cu3)).other (p := ⟨w.heap.size + 2, 0, none⟩) hne3 _).other (p := ⟨w.heap.size + 2, 1, none⟩) hne3 _).ext ((Ext.refl _).drew)).cell rfl, ((((set13_other HPB.out hne1 (.int .i64 3) (.int .i64 0) (.int .i64 (m0 : Int)) (.int .i64 (m1 : Int)) (.int .i64 (m2 : Int)) (.int .i64 (m3 : Int)) (.int .i64 0) (.int .i64 0) (.slice none 0 0) (.slice au0 lu0 cu0) (.slice au1 lu1 cu1) (.slice au2 lu2 cu2) (.slice au3 lu3 cu3)).other (p := ⟨w.heap.size + 2, 0, none⟩) hne3 _).other (p := ⟨w.heap.size + 2, 1, none⟩) hne3 _).ext ((Ext.refl _).drew)).cell rfl, ((((set13_other HPB.out hne1 (.int .i64 3) (.int .i64 0) (.int .i64 (m0 : Int)) (.int .i64 (m1 : Int)) (.int .i64 (m2 : Int)) (.int .i64 (m3 : Int)) (.int .i64 0) (.int .i64 0) (.slice none 0 0) (.slice au0 lu0 cu0) (.slice au1 lu1 cu1) (.slice au2 lu2 cu2) (.slice au3 lu3 cu3)).other (p := ⟨w.heap.size + 2, 0, none⟩) hne3 _).other (p := ⟨w.heap.size + 2, 1, none⟩) hne3 _).ext ((Ext.refl _).drew)).cell rfl, ((((set13_other HPB.out hne1 (.int .i64 3) (.int .i64 0) (.int .i64 (m0 : Int)) (.int .i64 (m1 : Int)) (.int .i64 (m2 : Int)) (.int .i64 (m3 : Int)) (.int .i64 0) (.int .i64 0) (.slice none 0 0) (.slice au0 lu0 cu0) (.slice au1 lu1 cu1) (.slice au2 lu2 cu2) (.slice au3 lu3 cu3)).other (p := ⟨w.heap.size + 2, 0, none⟩) hne3 _).other (p := ⟨w.heap.size + 2, 1, none⟩) hne3 _).ext ((Ext.refl _).drew)).cell rfl, ((((set13_other HPB.out hne1 (.int .i64 3) (.int .i64 0) (.int .i64 (m0 : Int)) (.int .i64 (m1 : Int)) (.int .i64 (m2 : Int)) (.int .i64 (m3 : Int)) (.int .i64 0) (.int .i64 0) (.slice none 0 0) (.slice au0 lu0 cu0) (.slice au1 lu1 cu1) (.slice au2 lu2 cu2) (.slice au3 lu3 cu3)).other (p := ⟨w.heap.size + 2, 0, none⟩) hne3 _).other (p := ⟨w.heap.size + 2, 1, none⟩) hne3 _).ext ((Ext.refl _).drew)).cell rfl, ((((set13_other HPB.out hne1 (.int .i64 3) (.int .i64 0) (.int .i64 (m0 : Int)) (.int .i64 (m1 : Int)) (.int .i64 (m2 : Int)) (.int .i64 (m3 : Int)) (.int .i64 0) (.int .i64 0) (.slice none 0 0) (.slice au0 lu0 cu0) (.slice au1 lu1 cu1) (.slice au2 lu2 cu2) (.slice au3 lu3 cu3)).other (p := ⟨w.heap.size + 2, 0, none⟩) hne3 _).other (p := ⟨w.heap.size + 2, 1, none⟩) hne3 _).ext ((Ext.refl _).drew)).cell rfl, ((((set13_other HPB.out hne1 (.int .i64 3) (.int .i64 0) (.int .i64 (m0 : Int)) (.int .i64 (m1 : Int)) (.int .i64 (m2 : Int)) (.int .i64 (m3 : Int)) (.int .i64 0) (.int .i64 0) (.slice none 0 0) (.slice au0 lu0 cu0) (.slice au1 lu1 cu1) (.slice au2 lu2 cu2) (.slice au3 lu3 cu3)).other (p := ⟨w.heap.size + 2, 0, none⟩) hne3 _).other (p := ⟨w.heap.size + 2, 1, none⟩) hne3 _).ext ((Ext.refl _).drew)).cell rfl, ((((set13_other HPB.out hne1 (.int .i64 3) (.int .i64 0) (.int .i64 (m0 : Int)) (.int .i64 (m1 : Int)) (.int .i64 (m2 : Int)) (.int .i64 (m3 : Int)) (.int .i64 0) (.int .i64 0) (.slice none 0 0) (.slice au0 lu0 cu0) (.slice au1 lu1 cu1) (.slice au2 lu2 cu2) (.slice au3 lu3 cu3)).other (p := ⟨w.heap.size + 2, 0, none⟩) hne3 _).other (p := ⟨w.heap.size + 2, 1, none⟩) hne3 _).ext ((Ext.refl _).drew)).cell rfl, ((((set13_other HXB.out hne2 (.int .i64 3) (.int .i64 0) (.int .i64 (m0 : Int)) (.int .i64 (m1 : Int)) (.int .i64 (m2 : Int)) (.int .i64 (m3 : Int)) (.int .i64 0) (.int .i64 0) (.slice none 0 0) (.slice au0 lu0 cu0) (.slice au1 lu1 cu1) (.slice au2 lu2 cu2) (.slice au3 lu3 cu3)).other (p := ⟨w.heap.size + 2, 0, none⟩) hne4 _).other (p := ⟨w.heap.size + 2, 1, none⟩) hne4 _).ext ((Ext.refl _).drew)).cell rfl, ((((set13_other HXB.out hne2 (.int .i64 3) (.int .i64 0) (.int .i64 (m0 : Int)) (.int .i64 (m1 : Int)) (.int .i64 (m2 : Int)) (.int .i64 (m3 : Int)) (.int .i64 0) (.int .i64 0) (.slice none 0 0) (.slice au0 lu0 cu0) (.slice au1 lu1 cu1) (.slice au2 lu2 cu2) (.slice au3 lu3 cu3)).other (p := ⟨w.heap.size + 2, 0, none⟩) hne4 _).other (p := ⟨w.heap.size + 2, 1, none⟩) hne4 _).ext ((Ext.refl _).drew)).cell rfl⟩) (fun hHeld => ?_)
              clear hK K hHeld
              try simp only [Act.put, List.setIfInBounds_toArray, List.set_cons_zero, List.set_cons_succ]
              refine wpAnyH_done (by kernel_rfl) ?_ _
              obtain ⟨GG, k1, k2⟩ := drop_mid (DwF.objD a) HSk.out
              have hZ : Step F w _ _ := (Step.of_ext (F := F) HE6.out).trans HIk.out
              obtain ⟨z1, z2, z3, z4⟩ := fin_all ((DwF.objD a).sep HoF.obj) k1 (hZ.sub k2) HB1.out (fun h => HN1.out (k2 _ h)) HB2.out (fun h => HN2.out (k2 _ h)) h12 HRB.out HEB.out (.int .i64 3) (.int .i64 0) (.int .i64 (m0 : Int)) (.int .i64 (m1 : Int)) (.int .i64 (m2 : Int)) (.int .i64 (m3 : Int)) (.int .i64 0) (.int .i64 0) (.slice none 0 0) (.slice au0 lu0 cu0) (.slice au1 lu1 cu1) (.slice au2 lu2 cu2) (.slice au3 lu3 cu3) (.int .i64 0) (.slice none 0 0)
              have z1 := Obj.ext ((DwF.objD a).sep HoF.obj) z1 ((Ext.refl _).drew)
              have z2 := z2.ext ((Ext.refl _).drew)
              have z3 := z3.ext ((Ext.refl _).drew)
              have z4 := z4.ext ((Ext.refl _).drew)
              clear ey0 ey1 yf0 yf1 k1 hZ
              generalize World.drew _ = wz at z1 z2 z3 z4 ⊢
              obtain ⟨⟨g0, g1, g2, g3, g4, g5, g6, g7, g8, g9, g10, g11, g12⟩, -⟩ := sq_cells z3
              have ey0 := z4.cell (i := 0) (v := .int .i64 0) rfl
              have ey1 := z4.cell (i := 1) (v := .slice none 0 0) rfl
              have HZ1 := Lib.hid z1
              have HZ2 := Lib.hid z2
              clear z1 z2 z3 z4
              go_wp2
              exact bodyPost_ret (v := .tuple #[.agg #[.int .i64 3, .int .i64 0, .int .i64 (m0 : Int), .int .i64 (m1 : Int), .int .i64 (m2 : Int), .int .i64 (m3 : Int), .int .i64 0, .int .i64 0, .slice none 0 0, .slice au0 lu0 cu0, .slice au1 lu1 cu1, .slice au2 lu2 cu2, .slice au3 lu3 cu3], .agg #[.int .i64 0, .slice none 0 0]]) (by simp [results, Tryz.results12, go_sem, g0, g1, g2, g3, g4, g5, g6, g7, g8, g9, g10, g11, g12, ey0, ey1]) rfl (RSqR.done (L := nilS) (s0 := (.slice au0 lu0 cu0)) (s1 := (.slice au1 lu1 cu1)) (s2 := (.slice au2 lu2 cu2)) (s3 := (.slice au3 lu3 cu3)) (HSX.out.trans HA.out) HZ1.out HZ2.out (fun W h => ⟨⟨Ints.nil W, h.1.1.1.2.1, h.1.1.2.1, h.1.2.1, h.2.1⟩, RErrIs.zero⟩))
            · subst hf
              obtain ⟨hc5, -, -⟩ := hx5
              obtain rfl : c3 = 3 := hc5
              obtain ⟨⟨s0, s1, s2, s3, s4, s5, s6, s7, s8, s9, s10, s11, s12⟩, -⟩ := sq_cells (HKP.out _ _ HId3.out).1.get.1.2
              obtain ⟨⟨p0, p1, p2, p3, p4, p5, p6, p7, p8, p9, p10, p11, p12⟩, f0, f1, f2, f3, f4, f5, f6, f7, f8, f9, f10, f11, f12⟩ := sq_cells (bp_p HSd3.out).1
              have ec0 := (bp_p HSd3.out).2.cell (i := 0) (v := .int .i64 0) rfl
              have ec1 := (bp_p HSd3.out).2.cell (i := 1) (v := .slice none 0 0) rfl
              have xf0 := (bp_p HSd3.out).2.free (i := 0)
              have xf1 := (bp_p HSd3.out).2.free (i := 1)
              have hs := bp_setp (DwF.objD a) HSd3.out 12 (.slice au3 lu3 cu3)
              have HSe3 : Hid (Sep (Sep (DwF a) (BpF w7.heap.size (w7.heap.size + 1))) HoF (w5.setCell ⟨w7.heap.size, 12, none⟩ (.slice au3 lu3 cu3)) _ ((_, (#[.int .i64 3, .int .i64 0, .int .i64 (m0 : Int), .int .i64 (m1 : Int), .int .i64 (m2 : Int), .int .i64 (m3 : Int), .int .i64 0, .int .i64 0, .slice none 0 0, .slice au0 lu0 cu0, .slice au1 lu1 cu1, .slice au2 lu2 cu2, .slice au3 lu3 cu3], #[.int .i64 0, .slice none 0 0])), _)) := hs.1
              have HIe3 := Lib.hid (HId3.out.trans hs.2)
              clear hs
              have hs := bp_sete (DwF.objD a) HSe3.out 0 (.int .i64 3)
              have HSf3 : Hid (Sep (Sep (DwF a) (BpF w7.heap.size (w7.heap.size + 1))) HoF ((w5.setCell ⟨w7.heap.size, 12, none⟩ (.slice au3 lu3 cu3)).setCell ⟨w7.heap.size + 1, 0, none⟩ (.int .i64 3)) _ ((_, (#[.int .i64 3, .int .i64 0, .int .i64 (m0 : Int), .int .i64 (m1 : Int), .int .i64 (m2 : Int), .int .i64 (m3 : Int), .int .i64 0, .int .i64 0, .slice none 0 0, .slice au0 lu0 cu0, .slice au1 lu1 cu1, .slice au2 lu2 cu2, .slice au3 lu3 cu3], #[.int .i64 3, .slice none 0 0])), _)) := hs.1
              have HIf3 := Lib.hid (HIe3.out.trans hs.2)
              clear hs
              have hs := bp_sete (DwF.objD a) HSf3.out 1 (.slice ra3 rn3 rk3)
              have HSg3 : Hid (Sep (Sep (DwF a) (BpF w7.heap.size (w7.heap.size + 1))) HoF (((w5.setCell ⟨w7.heap.size, 12, none⟩ (.slice au3 lu3 cu3)).setCell ⟨w7.heap.size + 1, 0, none⟩ (.int .i64 3)).setCell ⟨w7.heap.size + 1, 1, none⟩ (.slice ra3 rn3 rk3)) _ ((_, (#[.int .i64 3, .int .i64 0, .int .i64 (m0 : Int), .int .i64 (m1 : Int), .int .i64 (m2 : Int), .int .i64 (m3 : Int), .int .i64 0, .int .i64 0, .slice none 0 0, .slice au0 lu0 cu0, .slice au1 lu1 cu1, .slice au2 lu2 cu2, .slice au3 lu3 cu3], #[.int .i64 3, .slice ra3 rn3 rk3])), _)) := hs.1
              have HIg3 := Lib.hid (HIf3.out.trans hs.2)
              clear hs
              go_wp2_with fail
              rw [rounds_succ]
              go_wp2_with fail
              clear s0 s1 s2 s3 s4 s5 s6 s7 s8 s9 s10 s11 s12 p0 p1 p2 p3 p4 p5 p6 p7 p8 p9 p10 p11 p12 f0 f1 f2 f3 f4 f5 f6 f7 f8 f9 f10 f11 f12 ec0 ec1 xf0 xf1
              generalize World.setCell _ _ _ = w9 at HSg3 HIg3 ⊢
              clear HSd3 HSe3 HSf3 HId3 HIe3 HIf3
              have HA := Lib.hid (sq_run_bad HEK.out ((((HRUN.out.2 (by first | rfl | trivial)).2 (by first | rfl | trivial)).2 (by first | rfl | trivial)).1 _ (by first | rfl | trivial)))
              refine (ok_any _ _ _).mono ?_; rintro e wk ⟨rfl, hxk⟩
              have HSk := Lib.hid (Obj.ext (((DwF.objD a).sep (BpF.obj w7.heap.size (w7.heap.size + 1))).sep HoF.obj) HSg3.out hxk)
              have HIk := Lib.hid (HIg3.out.ext hxk)
              clear hxk HSg3 HIg3
              have pk := (bp_p HSk.out).1.cell (i := 0) (v := .int .i64 3) rfl
              have ec0 := (bp_p HSk.out).2.cell (i := 0) (v := .int .i64 3) rfl
              have ec1 := (bp_p HSk.out).2.cell (i := 1) (v := .slice ra3 rn3 rk3) rfl
              go_wp2_with fail
              refine (rin_hold synS 3 _ _ _ _ [(coefS, iq)] _ (bp_has HSk.out).2.2 (Nat.le_refl 1)).mono ?_; rintro e wi ⟨ua, un, uk, X, rfl, hxi, hxx, hoi⟩
              clear pk ec0 ec1
              obtain ⟨qa, qd⟩ := HKP.out _ _ HIk.out
              have HRB := Lib.hid (qa.get.1.1.1.ext hxi)
              have HEB := Lib.hid (qa.get.1.1.2.ext hxi)
              have HN1 := Lib.hid (qd (w.heap.size + 1) (.inl (.inl (.inl rfl))))
              have HN2 := Lib.hid (qd (w.heap.size + 2) (.inl (.inl (.inr rfl))))
              have hb1l := qa.get.1.1.1.lt
              have hb2l := qa.get.1.1.2.lt
              clear qa qd
              obtain ⟨GG, k1, k2⟩ := drop_mid (DwF.objD a) HSk.out
              have hZ : Step F w _ _ := (Step.of_ext (F := F) HE6.out).trans HIk.out
              obtain ⟨GN, m1, m2, m3⟩ := bag_addF (DwF.objD a) k1 (hZ.sub k2) hxi hoi hxx
              have n1 : ¬ GN (w.heap.size + 1) := fun h => by rcases m3 _ h with h | h; exact HN1.out (k2 _ h); omega
              have n2 : ¬ GN (w.heap.size + 2) := fun h => by rcases m3 _ h with h | h; exact HN2.out (k2 _ h); omega
              obtain ⟨z1, z2, z3, z4⟩ := fin_all ((DwF.objD a).sep HoF.obj) m1 m2 HB1.out n1 HB2.out n2 h12 HRB.out HEB.out (.int .i64 0) (.int .i64 0) (.int .i64 0) (.int .i64 0) (.int .i64 0) (.int .i64 0) (.int .i64 0) (.int .i64 0) (.slice none 0 0) (.slice none 0 0) (.slice none 0 0) (.slice none 0 0) (.slice none 0 0) (.int .i64 3) (.slice ua un uk)
              have HZ1 := Lib.hid z1
              have HZ2 := Lib.hid z2
              obtain ⟨⟨g0, g1, g2, g3, g4, g5, g6, g7, g8, g9, g10, g11, g12⟩, -⟩ := sq_cells z3
              have ey0 := z4.cell (i := 0) (v := .int .i64 3) rfl
              have ey1 := z4.cell (i := 1) (v := .slice ua un uk) rfl
              clear z1 z2 z3 z4 m1 m2 m3 n1 n2 k1 k2 hZ hxi hoi hxx
              obtain ⟨⟨e0, e1, e2, e3, e4, e5, e6, e7, e8, e9, e10, e11, e12⟩, f0, f1, f2, f3, f4, f5, f6, f7, f8, f9, f10, f11, f12⟩ := sq_cells HRB.out
              have w0' := (set13_other HEB.out h12 (.int .i64 0) (.int .i64 0) (.int .i64 0) (.int .i64 0) (.int .i64 0) (.int .i64 0) (.int .i64 0) (.int .i64 0) (.slice none 0 0) (.slice none 0 0) (.slice none 0 0) (.slice none 0 0) (.slice none 0 0)).cell (i := 0) (v := .int .i64 0) rfl
              have w1' := (set13_other HEB.out h12 (.int .i64 0) (.int .i64 0) (.int .i64 0) (.int .i64 0) (.int .i64 0) (.int .i64 0) (.int .i64 0) (.int .i64 0) (.slice none 0 0) (.slice none 0 0) (.slice none 0 0) (.slice none 0 0) (.slice none 0 0)).cell (i := 1) (v := .slice none 0 0) rfl
              have wf0 := (set13_other HEB.out h12 (.int .i64 0) (.int .i64 0) (.int .i64 0) (.int .i64 0) (.int .i64 0) (.int .i64 0) (.int .i64 0) (.int .i64 0) (.slice none 0 0) (.slice none 0 0) (.slice none 0 0) (.slice none 0 0) (.slice none 0 0)).free (i := 0)
              have wf1 := (set13_other HEB.out h12 (.int .i64 0) (.int .i64 0) (.int .i64 0) (.int .i64 0) (.int .i64 0) (.int .i64 0) (.int .i64 0) (.int .i64 0) (.slice none 0 0) (.slice none 0 0) (.slice none 0 0) (.slice none 0 0) (.slice none 0 0)).free (i := 1)
              go_wp2
              exact bodyPost_ret (v := .tuple #[.agg #[.int .i64 0, .int .i64 0, .int .i64 0, .int .i64 0, .int .i64 0, .int .i64 0, .int .i64 0, .int .i64 0, .slice none 0 0, .slice none 0 0, .slice none 0 0, .slice none 0 0, .slice none 0 0], .agg #[.int .i64 3, .slice ua un uk]]) (by simp [results, Tryz.results12, go_sem, g0, g1, g2, g3, g4, g5, g6, g7, g8, g9, g10, g11, g12, ey0, ey1]) rfl (RSqR.done (q := sq0) (L := nilS) (s0 := nilS) (s1 := nilS) (s2 := nilS) (s3 := nilS) (HSX.out.trans HA.out) HZ1.out HZ2.out (fun W h => ⟨SqIs.nil W 0, h.2⟩))
          · subst hf
            obtain ⟨hc5, -, -⟩ := hx5
            obtain rfl : c2 = 3 := hc5
            obtain ⟨⟨s0, s1, s2, s3, s4, s5, s6, s7, s8, s9, s10, s11, s12⟩, -⟩ := sq_cells (HKP.out _ _ HId2.out).1.get.1.2
            obtain ⟨⟨p0, p1, p2, p3, p4, p5, p6, p7, p8, p9, p10, p11, p12⟩, f0, f1, f2, f3, f4, f5, f6, f7, f8, f9, f10, f11, f12⟩ := sq_cells (bp_p HSd2.out).1
            have ec0 := (bp_p HSd2.out).2.cell (i := 0) (v := .int .i64 0) rfl
            have ec1 := (bp_p HSd2.out).2.cell (i := 1) (v := .slice none 0 0) rfl
            have xf0 := (bp_p HSd2.out).2.free (i := 0)
            have xf1 := (bp_p HSd2.out).2.free (i := 1)
            have hs := bp_setp (DwF.objD a) HSd2.out 11 (.slice au2 lu2 cu2)
            have HSe2 : Hid (Sep (Sep (DwF a) (BpF w7.heap.size (w7.heap.size + 1))) HoF (w5.setCell ⟨w7.heap.size, 11, none⟩ (.slice au2 lu2 cu2)) _ ((_, (#[.int .i64 3, .int .i64 0, .int .i64 (m0 : Int), .int .i64 (m1 : Int), .int .i64 (m2 : Int), .int .i64 0, .int .i64 0, .int .i64 0, .slice none 0 0, .slice au0 lu0 cu0, .slice au1 lu1 cu1, .slice au2 lu2 cu2, .slice none 0 0], #[.int .i64 0, .slice none 0 0])), _)) := hs.1
            have HIe2 := Lib.hid (HId2.out.trans hs.2)
            clear hs
            have hs := bp_sete (DwF.objD a) HSe2.out 0 (.int .i64 3)
            have HSf2 : Hid (Sep (Sep (DwF a) (BpF w7.heap.size (w7.heap.size + 1))) HoF ((w5.setCell ⟨w7.heap.size, 11, none⟩ (.slice au2 lu2 cu2)).setCell ⟨w7.heap.size + 1, 0, none⟩ (.int .i64 3)) _ ((_, (#[.int .i64 3, .int .i64 0, .int .i64 (m0 : Int), .int .i64 (m1 : Int), .int .i64 (m2 : Int), .int .i64 0, .int .i64 0, .int .i64 0, .slice none 0 0, .slice au0 lu0 cu0, .slice au1 lu1 cu1, .slice au2 lu2 cu2, .slice none 0 0], #[.int .i64 3, .slice none 0 0])), _)) := hs.1
            have HIf2 := Lib.hid (HIe2.out.trans hs.2)
            clear hs
            have hs := bp_sete (DwF.objD a) HSf2.out 1 (.slice ra2 rn2 rk2)
            have HSg2 : Hid (Sep (Sep (DwF a) (BpF w7.heap.size (w7.heap.size + 1))) HoF (((w5.setCell ⟨w7.heap.size, 11, none⟩ (.slice au2 lu2 cu2)).setCell ⟨w7.heap.size + 1, 0, none⟩ (.int .i64 3)).setCell ⟨w7.heap.size + 1, 1, none⟩ (.slice ra2 rn2 rk2)) _ ((_, (#[.int .i64 3, .int .i64 0, .int .i64 (m0 : Int), .int .i64 (m1 : Int), .int .i64 (m2 : Int), .int .i64 0, .int .i64 0, .int .i64 0, .slice none 0 0, .slice au0 lu0 cu0, .slice au1 lu1 cu1, .slice au2 lu2 cu2, .slice none 0 0], #[.int .i64 3, .slice ra2 rn2 rk2])), _)) := hs.1
            have HIg2 := Lib.hid (HIf2.out.trans hs.2)
            clear hs
            go_wp2_with fail
            rw [rounds_succ]
            go_wp2_with fail
            clear s0 s1 s2 s3 s4 s5 s6 s7 s8 s9 s10 s11 s12 p0 p1 p2 p3 p4 p5 p6 p7 p8 p9 p10 p11 p12 f0 f1 f2 f3 f4 f5 f6 f7 f8 f9 f10 f11 f12 ec0 ec1 xf0 xf1
            generalize World.setCell _ _ _ = w9 at HSg2 HIg2 ⊢
            clear HSd2 HSe2 HSf2 HId2 HIe2 HIf2
            refine (ok_any _ _ _).mono ?_; rintro e wkh2 ⟨rfl, hxk⟩
            have HSh2 := Lib.hid (Obj.ext (((DwF.objD a).sep (BpF.obj w7.heap.size (w7.heap.size + 1))).sep HoF.obj) HSg2.out hxk)
            have HIh2 := Lib.hid (HIg2.out.ext hxk)
            clear hxk HSg2 HIg2
            have ec0 := (bp_p HSh2.out).2.cell (i := 0) (v := .int .i64 3) rfl
            have ec1 := (bp_p HSh2.out).2.cell (i := 1) (v := .slice ra2 rn2 rk2) rfl
            go_wp2_with fail
            clear ec0 ec1
            have HA := Lib.hid (sq_run_bad HEK.out (((HRUN.out.2 (by first | rfl | trivial)).2 (by first | rfl | trivial)).1 _ (by first | rfl | trivial)))
            refine (ok_any _ _ _).mono ?_; rintro e wk ⟨rfl, hxk⟩
            have HSk := Lib.hid (Obj.ext (((DwF.objD a).sep (BpF.obj w7.heap.size (w7.heap.size + 1))).sep HoF.obj) HSh2.out hxk)
            have HIk := Lib.hid (HIh2.out.ext hxk)
            clear hxk HSh2 HIh2
            have pk := (bp_p HSk.out).1.cell (i := 0) (v := .int .i64 3) rfl
            have ec0 := (bp_p HSk.out).2.cell (i := 0) (v := .int .i64 3) rfl
            have ec1 := (bp_p HSk.out).2.cell (i := 1) (v := .slice ra2 rn2 rk2) rfl
            go_wp2_with fail
            refine (rin_hold synS 3 _ _ _ _ [(coefS, iq)] _ (bp_has HSk.out).2.2 (Nat.le_refl 1)).mono ?_; rintro e wi ⟨ua, un, uk, X, rfl, hxi, hxx, hoi⟩
            clear pk ec0 ec1
            obtain ⟨qa, qd⟩ := HKP.out _ _ HIk.out
            have HRB := Lib.hid (qa.get.1.1.1.ext hxi)
            have HEB := Lib.hid (qa.get.1.1.2.ext hxi)
            have HN1 := Lib.hid (qd (w.heap.size + 1) (.inl (.inl (.inl rfl))))
            have HN2 := Lib.hid (qd (w.heap.size + 2) (.inl (.inl (.inr rfl))))
            have hb1l := qa.get.1.1.1.lt
            have hb2l := qa.get.1.1.2.lt
            clear qa qd
            obtain ⟨GG, k1, k2⟩ := drop_mid (DwF.objD a) HSk.out
            have hZ : Step F w _ _ := (Step.of_ext (F := F) HE6.out).trans HIk.out
            obtain ⟨GN, m1, m2, m3⟩ := bag_addF (DwF.objD a) k1 (hZ.sub k2) hxi hoi hxx
            have n1 : ¬ GN (w.heap.size + 1) := fun h => by rcases m3 _ h with h | h; exact HN1.out (k2 _ h); omega
            have n2 : ¬ GN (w.heap.size + 2) := fun h => by rcases m3 _ h with h | h; exact HN2.out (k2 _ h); omega
            obtain ⟨z1, z2, z3, z4⟩ := fin_all ((DwF.objD a).sep HoF.obj) m1 m2 HB1.out n1 HB2.out n2 h12 HRB.out HEB.out (.int .i64 0) (.int .i64 0) (.int .i64 0) (.int .i64 0) (.int .i64 0) (.int .i64 0) (.int .i64 0) (.int .i64 0) (.slice none 0 0) (.slice none 0 0) (.slice none 0 0) (.slice none 0 0) (.slice none 0 0) (.int .i64 3) (.slice ua un uk)
            have HZ1 := Lib.hid z1
            have HZ2 := Lib.hid z2
            obtain ⟨⟨g0, g1, g2, g3, g4, g5, g6, g7, g8, g9, g10, g11, g12⟩, -⟩ := sq_cells z3
            have ey0 := z4.cell (i := 0) (v := .int .i64 3) rfl
            have ey1 := z4.cell (i := 1) (v := .slice ua un uk) rfl
            clear z1 z2 z3 z4 m1 m2 m3 n1 n2 k1 k2 hZ hxi hoi hxx
            obtain ⟨⟨e0, e1, e2, e3, e4, e5, e6, e7, e8, e9, e10, e11, e12⟩, f0, f1, f2, f3, f4, f5, f6, f7, f8, f9, f10, f11, f12⟩ := sq_cells HRB.out
            have w0' := (set13_other HEB.out h12 (.int .i64 0) (.int .i64 0) (.int .i64 0) (.int .i64 0) (.int .i64 0) (.int .i64 0) (.int .i64 0) (.int .i64 0) (.slice none 0 0) (.slice none 0 0) (.slice none 0 0) (.slice none 0 0) (.slice none 0 0)).cell (i := 0) (v := .int .i64 0) rfl
            have w1' := (set13_other HEB.out h12 (.int .i64 0) (.int .i64 0) (.int .i64 0) (.int .i64 0) (.int .i64 0) (.int .i64 0) (.int .i64 0) (.int .i64 0) (.slice none 0 0) (.slice none 0 0) (.slice none 0 0) (.slice none 0 0) (.slice none 0 0)).cell (i := 1) (v := .slice none 0 0) rfl
            have wf0 := (set13_other HEB.out h12 (.int .i64 0) (.int .i64 0) (.int .i64 0) (.int .i64 0) (.int .i64 0) (.int .i64 0) (.int .i64 0) (.int .i64 0) (.slice none 0 0) (.slice none 0 0) (.slice none 0 0) (.slice none 0 0) (.slice none 0 0)).free (i := 0)
            have wf1 := (set13_other HEB.out h12 (.int .i64 0) (.int .i64 0) (.int .i64 0) (.int .i64 0) (.int .i64 0) (.int .i64 0) (.int .i64 0) (.int .i64 0) (.slice none 0 0) (.slice none 0 0) (.slice none 0 0) (.slice none 0 0) (.slice none 0 0)).free (i := 1)
            go_wp2
            exact bodyPost_ret (v := .tuple #[.agg #[.int .i64 0, .int .i64 0, .int .i64 0, .int .i64 0, .int .i64 0, .int .i64 0, .int .i64 0, .int .i64 0, .slice none 0 0, .slice none 0 0, .slice none 0 0, .slice none 0 0, .slice none 0 0], .agg #[.int .i64 3, .slice ua un uk]]) (by simp [results, Tryz.results12, go_sem, g0, g1, g2, g3, g4, g5, g6, g7, g8, g9, g10, g11, g12, ey0, ey1]) rfl (RSqR.done (q := sq0) (L := nilS) (s0 := nilS) (s1 := nilS) (s2 := nilS) (s3 := nilS) (HSX.out.trans HA.out) HZ1.out HZ2.out (fun W h => ⟨SqIs.nil W 0, h.2⟩))
        · subst hf
          obtain ⟨hc5, -, -⟩ := hx5
          obtain rfl : c1 = 3 := hc5
          obtain ⟨⟨s0, s1, s2, s3, s4, s5, s6, s7, s8, s9, s10, s11, s12⟩, -⟩ := sq_cells (HKP.out _ _ HId1.out).1.get.1.2
          obtain ⟨⟨p0, p1, p2, p3, p4, p5, p6, p7, p8, p9, p10, p11, p12⟩, f0, f1, f2, f3, f4, f5, f6, f7, f8, f9, f10, f11, f12⟩ := sq_cells (bp_p HSd1.out).1
          have ec0 := (bp_p HSd1.out).2.cell (i := 0) (v := .int .i64 0) rfl
          have ec1 := (bp_p HSd1.out).2.cell (i := 1) (v := .slice none 0 0) rfl
          have xf0 := (bp_p HSd1.out).2.free (i := 0)
          have xf1 := (bp_p HSd1.out).2.free (i := 1)
          have hs := bp_setp (DwF.objD a) HSd1.out 10 (.slice au1 lu1 cu1)
          have HSe1 : Hid (Sep (Sep (DwF a) (BpF w7.heap.size (w7.heap.size + 1))) HoF (w5.setCell ⟨w7.heap.size, 10, none⟩ (.slice au1 lu1 cu1)) _ ((_, (#[.int .i64 3, .int .i64 0, .int .i64 (m0 : Int), .int .i64 (m1 : Int), .int .i64 0, .int .i64 0, .int .i64 0, .int .i64 0, .slice none 0 0, .slice au0 lu0 cu0, .slice au1 lu1 cu1, .slice none 0 0, .slice none 0 0], #[.int .i64 0, .slice none 0 0])), _)) := hs.1
          have HIe1 := Lib.hid (HId1.out.trans hs.2)
          clear hs
          have hs := bp_sete (DwF.objD a) HSe1.out 0 (.int .i64 3)
          have HSf1 : Hid (Sep (Sep (DwF a) (BpF w7.heap.size (w7.heap.size + 1))) HoF ((w5.setCell ⟨w7.heap.size, 10, none⟩ (.slice au1 lu1 cu1)).setCell ⟨w7.heap.size + 1, 0, none⟩ (.int .i64 3)) _ ((_, (#[.int .i64 3, .int .i64 0, .int .i64 (m0 : Int), .int .i64 (m1 : Int), .int .i64 0, .int .i64 0, .int .i64 0, .int .i64 0, .slice none 0 0, .slice au0 lu0 cu0, .slice au1 lu1 cu1, .slice none 0 0, .slice none 0 0], #[.int .i64 3, .slice none 0 0])), _)) := hs.1
          have HIf1 := Lib.hid (HIe1.out.trans hs.2)
          clear hs
          have hs := bp_sete (DwF.objD a) HSf1.out 1 (.slice ra1 rn1 rk1)
          have HSg1 : Hid (Sep (Sep (DwF a) (BpF w7.heap.size (w7.heap.size + 1))) HoF (((w5.setCell ⟨w7.heap.size, 10, none⟩ (.slice au1 lu1 cu1)).setCell ⟨w7.heap.size + 1, 0, none⟩ (.int .i64 3)).setCell ⟨w7.heap.size + 1, 1, none⟩ (.slice ra1 rn1 rk1)) _ ((_, (#[.int .i64 3, .int .i64 0, .int .i64 (m0 : Int), .int .i64 (m1 : Int), .int .i64 0, .int .i64 0, .int .i64 0, .int .i64 0, .slice none 0 0, .slice au0 lu0 cu0, .slice au1 lu1 cu1, .slice none 0 0, .slice none 0 0], #[.int .i64 3, .slice ra1 rn1 rk1])), _)) := hs.1
          have HIg1 := Lib.hid (HIf1.out.trans hs.2)
          clear hs
          go_wp2_with fail
          rw [rounds_succ]
          go_wp2_with fail
          clear s0 s1 s2 s3 s4 s5 s6 s7 s8 s9 s10 s11 s12 p0 p1 p2 p3 p4 p5 p6 p7 p8 p9 p10 p11 p12 f0 f1 f2 f3 f4 f5 f6 f7 f8 f9 f10 f11 f12 ec0 ec1 xf0 xf1
          generalize World.setCell _ _ _ = w9 at HSg1 HIg1 ⊢
          clear HSd1 HSe1 HSf1 HId1 HIe1 HIf1
          refine (ok_any _ _ _).mono ?_; rintro e wkh1 ⟨rfl, hxk⟩
          have HSh1 := Lib.hid (Obj.ext (((DwF.objD a).sep (BpF.obj w7.heap.size (w7.heap.size + 1))).sep HoF.obj) HSg1.out hxk)
          have HIh1 := Lib.hid (HIg1.out.ext hxk)
          clear hxk HSg1 HIg1
          have ec0 := (bp_p HSh1.out).2.cell (i := 0) (v := .int .i64 3) rfl
          have ec1 := (bp_p HSh1.out).2.cell (i := 1) (v := .slice ra1 rn1 rk1) rfl
          go_wp2_with fail
          clear ec0 ec1
          have HA := Lib.hid (sq_run_bad HEK.out ((HRUN.out.2 (by first | rfl | trivial)).1 _ (by first | rfl | trivial)))
          refine (ok_any _ _ _).mono ?_; rintro e wk ⟨rfl, hxk⟩
          have HSk := Lib.hid (Obj.ext (((DwF.objD a).sep (BpF.obj w7.heap.size (w7.heap.size + 1))).sep HoF.obj) HSh1.out hxk)
          have HIk := Lib.hid (HIh1.out.ext hxk)
          clear hxk HSh1 HIh1
          have pk := (bp_p HSk.out).1.cell (i := 0) (v := .int .i64 3) rfl
          have ec0 := (bp_p HSk.out).2.cell (i := 0) (v := .int .i64 3) rfl
          have ec1 := (bp_p HSk.out).2.cell (i := 1) (v := .slice ra1 rn1 rk1) rfl
          go_wp2_with fail
          refine (rin_hold synS 3 _ _ _ _ [(coefS, iq)] _ (bp_has HSk.out).2.2 (Nat.le_refl 1)).mono ?_; rintro e wi ⟨ua, un, uk, X, rfl, hxi, hxx, hoi⟩
          clear pk ec0 ec1
          obtain ⟨qa, qd⟩ := HKP.out _ _ HIk.out
          have HRB := Lib.hid (qa.get.1.1.1.ext hxi)
          have HEB := Lib.hid (qa.get.1.1.2.ext hxi)
          have HN1 := Lib.hid (qd (w.heap.size + 1) (.inl (.inl (.inl rfl))))
          have HN2 := Lib.hid (qd (w.heap.size + 2) (.inl (.inl (.inr rfl))))
          have hb1l := qa.get.1.1.1.lt
          have hb2l := qa.get.1.1.2.lt
          clear qa qd
          obtain ⟨GG, k1, k2⟩ := drop_mid (DwF.objD a) HSk.out
          have hZ : Step F w _ _ := (Step.of_ext (F := F) HE6.out).trans HIk.out
          obtain ⟨GN, m1, m2, m3⟩ := bag_addF (DwF.objD a) k1 (hZ.sub k2) hxi hoi hxx
          have n1 : ¬ GN (w.heap.size + 1) := fun h => by rcases m3 _ h with h | h; exact HN1.out (k2 _ h); omega
          have n2 : ¬ GN (w.heap.size + 2) := fun h => by rcases m3 _ h with h | h; exact HN2.out (k2 _ h); omega
          obtain ⟨z1, z2, z3, z4⟩ := fin_all ((DwF.objD a).sep HoF.obj) m1 m2 HB1.out n1 HB2.out n2 h12 HRB.out HEB.out (.int .i64 0) (.int .i64 0) (.int .i64 0) (.int .i64 0) (.int .i64 0) (.int .i64 0) (.int .i64 0) (.int .i64 0) (.slice none 0 0) (.slice none 0 0) (.slice none 0 0) (.slice none 0 0) (.slice none 0 0) (.int .i64 3) (.slice ua un uk)
          have HZ1 := Lib.hid z1
          have HZ2 := Lib.hid z2
          obtain ⟨⟨g0, g1, g2, g3, g4, g5, g6, g7, g8, g9, g10, g11, g12⟩, -⟩ := sq_cells z3
          have ey0 := z4.cell (i := 0) (v := .int .i64 3) rfl
          have ey1 := z4.cell (i := 1) (v := .slice ua un uk) rfl
          clear z1 z2 z3 z4 m1 m2 m3 n1 n2 k1 k2 hZ hxi hoi hxx
          obtain ⟨⟨e0, e1, e2, e3, e4, e5, e6, e7, e8, e9, e10, e11, e12⟩, f0, f1, f2, f3, f4, f5, f6, f7, f8, f9, f10, f11, f12⟩ := sq_cells HRB.out
          have w0' := (set13_other HEB.out h12 (.int .i64 0) (.int .i64 0) (.int .i64 0) (.int .i64 0) (.int .i64 0) (.int .i64 0) (.int .i64 0) (.int .i64 0) (.slice none 0 0) (.slice none 0 0) (.slice none 0 0) (.slice none 0 0) (.slice none 0 0)).cell (i := 0) (v := .int .i64 0) rfl
          have w1' := (set13_other HEB.out h12 (.int .i64 0) (.int .i64 0) (.int .i64 0) (.int .i64 0) (.int .i64 0) (.int .i64 0) (.int .i64 0) (.int .i64 0) (.slice none 0 0) (.slice none 0 0) (.slice none 0 0) (.slice none 0 0) (.slice none 0 0)).cell (i := 1) (v := .slice none 0 0) rfl
          have wf0 := (set13_other HEB.out h12 (.int .i64 0) (.int .i64 0) (.int .i64 0) (.int .i64 0) (.int .i64 0) (.int .i64 0) (.int .i64 0) (.int .i64 0) (.slice none 0 0) (.slice none 0 0) (.slice none 0 0) (.slice none 0 0) (.slice none 0 0)).free (i := 0)
          have wf1 := (set13_other HEB.out h12 (.int .i64 0) (.int .i64 0) (.int .i64 0) (.int .i64 0) (.int .i64 0) (.int .i64 0) (.int .i64 0) (.int .i64 0) (.slice none 0 0) (.slice none 0 0) (.slice none 0 0) (.slice none 0 0) (.slice none 0 0)).free (i := 1)
          go_wp2
          exact bodyPost_ret (v := .tuple #[.agg #[.int .i64 0, .int .i64 0, .int .i64 0, .int .i64 0, .int .i64 0, .int .i64 0, .int .i64 0, .int .i64 0, .slice none 0 0, .slice none 0 0, .slice none 0 0, .slice none 0 0, .slice none 0 0], .agg #[.int .i64 3, .slice ua un uk]]) (by simp [results, Tryz.results12, go_sem, g0, g1, g2, g3, g4, g5, g6, g7, g8, g9, g10, g11, g12, ey0, ey1]) rfl (RSqR.done (q := sq0) (L := nilS) (s0 := nilS) (s1 := nilS) (s2 := nilS) (s3 := nilS) (HSX.out.trans HA.out) HZ1.out HZ2.out (fun W h => ⟨SqIs.nil W 0, h.2⟩))
      · subst hf
        obtain ⟨hc5, -, -⟩ := hx5
        obtain rfl : c0 = 3 := hc5
        obtain ⟨⟨s0, s1, s2, s3, s4, s5, s6, s7, s8, s9, s10, s11, s12⟩, -⟩ := sq_cells (HKP.out _ _ HId0.out).1.get.1.2
        obtain ⟨⟨p0, p1, p2, p3, p4, p5, p6, p7, p8, p9, p10, p11, p12⟩, f0, f1, f2, f3, f4, f5, f6, f7, f8, f9, f10, f11, f12⟩ := sq_cells (bp_p HSd0.out).1
        have ec0 := (bp_p HSd0.out).2.cell (i := 0) (v := .int .i64 0) rfl
        have ec1 := (bp_p HSd0.out).2.cell (i := 1) (v := .slice none 0 0) rfl
        have xf0 := (bp_p HSd0.out).2.free (i := 0)
        have xf1 := (bp_p HSd0.out).2.free (i := 1)
        have hs := bp_setp (DwF.objD a) HSd0.out 9 (.slice au0 lu0 cu0)
        have HSe0 : Hid (Sep (Sep (DwF a) (BpF w7.heap.size (w7.heap.size + 1))) HoF (w5.setCell ⟨w7.heap.size, 9, none⟩ (.slice au0 lu0 cu0)) _ ((_, (#[.int .i64 3, .int .i64 0, .int .i64 (m0 : Int), .int .i64 0, .int .i64 0, .int .i64 0, .int .i64 0, .int .i64 0, .slice none 0 0, .slice au0 lu0 cu0, .slice none 0 0, .slice none 0 0, .slice none 0 0], #[.int .i64 0, .slice none 0 0])), _)) := hs.1
        have HIe0 := Lib.hid (HId0.out.trans hs.2)
        clear hs
        have hs := bp_sete (DwF.objD a) HSe0.out 0 (.int .i64 3)
        have HSf0 : Hid (Sep (Sep (DwF a) (BpF w7.heap.size (w7.heap.size + 1))) HoF ((w5.setCell ⟨w7.heap.size, 9, none⟩ (.slice au0 lu0 cu0)).setCell ⟨w7.heap.size + 1, 0, none⟩ (.int .i64 3)) _ ((_, (#[.int .i64 3, .int .i64 0, .int .i64 (m0 : Int), .int .i64 0, .int .i64 0, .int .i64 0, .int .i64 0, .int .i64 0, .slice none 0 0, .slice au0 lu0 cu0, .slice none 0 0, .slice none 0 0, .slice none 0 0], #[.int .i64 3, .slice none 0 0])), _)) := hs.1
        have HIf0 := Lib.hid (HIe0.out.trans hs.2)
        clear hs
        have hs := bp_sete (DwF.objD a) HSf0.out 1 (.slice ra0 rn0 rk0)
        have HSg0 : Hid (Sep (Sep (DwF a) (BpF w7.heap.size (w7.heap.size + 1))) HoF (((w5.setCell ⟨w7.heap.size, 9, none⟩ (.slice au0 lu0 cu0)).setCell ⟨w7.heap.size + 1, 0, none⟩ (.int .i64 3)).setCell ⟨w7.heap.size + 1, 1, none⟩ (.slice ra0 rn0 rk0)) _ ((_, (#[.int .i64 3, .int .i64 0, .int .i64 (m0 : Int), .int .i64 0, .int .i64 0, .int .i64 0, .int .i64 0, .int .i64 0, .slice none 0 0, .slice au0 lu0 cu0, .slice none 0 0, .slice none 0 0, .slice none 0 0], #[.int .i64 3, .slice ra0 rn0 rk0])), _)) := hs.1
        have HIg0 := Lib.hid (HIf0.out.trans hs.2)
        clear hs
        go_wp2_with fail
        rw [rounds_succ]
        go_wp2_with fail
        clear s0 s1 s2 s3 s4 s5 s6 s7 s8 s9 s10 s11 s12 p0 p1 p2 p3 p4 p5 p6 p7 p8 p9 p10 p11 p12 f0 f1 f2 f3 f4 f5 f6 f7 f8 f9 f10 f11 f12 ec0 ec1 xf0 xf1
        generalize World.setCell _ _ _ = w9 at HSg0 HIg0 ⊢
        clear HSd0 HSe0 HSf0 HId0 HIe0 HIf0
        refine (ok_any _ _ _).mono ?_; rintro e wkh0 ⟨rfl, hxk⟩
        have HSh0 := Lib.hid (Obj.ext (((DwF.objD a).sep (BpF.obj w7.heap.size (w7.heap.size + 1))).sep HoF.obj) HSg0.out hxk)
        have HIh0 := Lib.hid (HIg0.out.ext hxk)
        clear hxk HSg0 HIg0
        have ec0 := (bp_p HSh0.out).2.cell (i := 0) (v := .int .i64 3) rfl
        have ec1 := (bp_p HSh0.out).2.cell (i := 1) (v := .slice ra0 rn0 rk0) rfl
        go_wp2_with fail
        clear ec0 ec1
        have HA := Lib.hid (sq_run_bad HEK.out (HRUN.out.1 _ (by first | rfl | trivial)))
        refine (ok_any _ _ _).mono ?_; rintro e wk ⟨rfl, hxk⟩
        have HSk := Lib.hid (Obj.ext (((DwF.objD a).sep (BpF.obj w7.heap.size (w7.heap.size + 1))).sep HoF.obj) HSh0.out hxk)
        have HIk := Lib.hid (HIh0.out.ext hxk)
        clear hxk HSh0 HIh0
        have pk := (bp_p HSk.out).1.cell (i := 0) (v := .int .i64 3) rfl
        have ec0 := (bp_p HSk.out).2.cell (i := 0) (v := .int .i64 3) rfl
        have ec1 := (bp_p HSk.out).2.cell (i := 1) (v := .slice ra0 rn0 rk0) rfl
        go_wp2_with fail
        refine (rin_hold synS 3 _ _ _ _ [(coefS, iq)] _ (bp_has HSk.out).2.2 (Nat.le_refl 1)).mono ?_; rintro e wi ⟨ua, un, uk, X, rfl, hxi, hxx, hoi⟩
        clear pk ec0 ec1
        obtain ⟨qa, qd⟩ := HKP.out _ _ HIk.out
        have HRB := Lib.hid (qa.get.1.1.1.ext hxi)
        have HEB := Lib.hid (qa.get.1.1.2.ext hxi)
        have HN1 := Lib.hid (qd (w.heap.size + 1) (.inl (.inl (.inl rfl))))
        have HN2 := Lib.hid (qd (w.heap.size + 2) (.inl (.inl (.inr rfl))))
        have hb1l := qa.get.1.1.1.lt
        have hb2l := qa.get.1.1.2.lt
        clear qa qd
        obtain ⟨GG, k1, k2⟩ := drop_mid (DwF.objD a) HSk.out
        have hZ : Step F w _ _ := (Step.of_ext (F := F) HE6.out).trans HIk.out
        obtain ⟨GN, m1, m2, m3⟩ := bag_addF (DwF.objD a) k1 (hZ.sub k2) hxi hoi hxx
        have n1 : ¬ GN (w.heap.size + 1) := fun h => by rcases m3 _ h with h | h; exact HN1.out (k2 _ h); omega
        have n2 : ¬ GN (w.heap.size + 2) := fun h => by rcases m3 _ h with h | h; exact HN2.out (k2 _ h); omega
        obtain ⟨z1, z2, z3, z4⟩ := fin_all ((DwF.objD a).sep HoF.obj) m1 m2 HB1.out n1 HB2.out n2 h12 HRB.out HEB.out (.int .i64 0) (.int .i64 0) (.int .i64 0) (.int .i64 0) (.int .i64 0) (.int .i64 0) (.int .i64 0) (.int .i64 0) (.slice none 0 0) (.slice none 0 0) (.slice none 0 0) (.slice none 0 0) (.slice none 0 0) (.int .i64 3) (.slice ua un uk)
        have HZ1 := Lib.hid z1
        have HZ2 := Lib.hid z2
        obtain ⟨⟨g0, g1, g2, g3, g4, g5, g6, g7, g8, g9, g10, g11, g12⟩, -⟩ := sq_cells z3
        have ey0 := z4.cell (i := 0) (v := .int .i64 3) rfl
        have ey1 := z4.cell (i := 1) (v := .slice ua un uk) rfl
        clear z1 z2 z3 z4 m1 m2 m3 n1 n2 k1 k2 hZ hxi hoi hxx
        obtain ⟨⟨e0, e1, e2, e3, e4, e5, e6, e7, e8, e9, e10, e11, e12⟩, f0, f1, f2, f3, f4, f5, f6, f7, f8, f9, f10, f11, f12⟩ := sq_cells HRB.out
        have w0' := (set13_other HEB.out h12 (.int .i64 0) (.int .i64 0) (.int .i64 0) (.int .i64 0) (.int .i64 0) (.int .i64 0) (.int .i64 0) (.int .i64 0) (.slice none 0 0) (.slice none 0 0) (.slice none 0 0) (.slice none 0 0) (.slice none 0 0)).cell (i := 0) (v := .int .i64 0) rfl
        have w1' := (set13_other HEB.out h12 (.int .i64 0) (.int .i64 0) (.int .i64 0) (.int .i64 0) (.int .i64 0) (.int .i64 0) (.int .i64 0) (.int .i64 0) (.slice none 0 0) (.slice none 0 0) (.slice none 0 0) (.slice none 0 0) (.slice none 0 0)).cell (i := 1) (v := .slice none 0 0) rfl
        have wf0 := (set13_other HEB.out h12 (.int .i64 0) (.int .i64 0) (.int .i64 0) (.int .i64 0) (.int .i64 0) (.int .i64 0) (.int .i64 0) (.int .i64 0) (.slice none 0 0) (.slice none 0 0) (.slice none 0 0) (.slice none 0 0) (.slice none 0 0)).free (i := 0)
        have wf1 := (set13_other HEB.out h12 (.int .i64 0) (.int .i64 0) (.int .i64 0) (.int .i64 0) (.int .i64 0) (.int .i64 0) (.int .i64 0) (.int .i64 0) (.slice none 0 0) (.slice none 0 0) (.slice none 0 0) (.slice none 0 0) (.slice none 0 0)).free (i := 1)
        go_wp2
        exact bodyPost_ret (v := .tuple #[.agg #[.int .i64 0, .int .i64 0, .int .i64 0, .int .i64 0, .int .i64 0, .int .i64 0, .int .i64 0, .int .i64 0, .slice none 0 0, .slice none 0 0, .slice none 0 0, .slice none 0 0, .slice none 0 0], .agg #[.int .i64 3, .slice ua un uk]]) (by simp [results, Tryz.results12, go_sem, g0, g1, g2, g3, g4, g5, g6, g7, g8, g9, g10, g11, g12, ey0, ey1]) rfl (RSqR.done (q := sq0) (L := nilS) (s0 := nilS) (s1 := nilS) (s2 := nilS) (s3 := nilS) (HSX.out.trans HA.out) HZ1.out HZ2.out (fun W h => ⟨SqIs.nil W 0, h.2⟩))
    omega
end Go.Proofs.YtpofabebmeickaaGreatDoor

