/- Contracts of this seat: Mo14, Mo7, Mo15, Mo16, Law, Opn, OpV, Mo17. -/
import Derived.Test.YtaamnpbhmckpbaaDoorZd
import Derived.Deep.RegionWith
import Derived.Deep.CutRange
import Derived.BigRegion
import Derived.Deep.RegionHeld3
import Derived.Test.YtaamnpbhmckpbaaDoorCards
import Derived.Test.YtaamnpbhmckpbaaDoorTie
import Derived.ProofKit
import Derived.OpenShut
import Derived.LaidHandle
import Derived.Deep.DeepHandedRow
import Derived.WideKeyArgs
import Derived.Deep.Matrix
import Derived.Lib.SmallJoins
import Derived.BigQuiet
import Derived.Deep.QuietTactic
/- kinref11.Search where it gives a vector: its contract over this seat's translation. -/
namespace Go.Proofs.YtaamnpbhmckpbaaDoor
set_option linter.unusedVariables false
set_option linter.unusedSimpArgs false
open Go.RowKit Go.Extern.Stop Go.Stop Go.Extern

theorem sadF_cong {f g f' g' : Nat → Int} {n : Nat} (h : ∀ j, j < n → f j = f' j) (k : ∀ j, j < n → g j = g' j) : sadF f g n = sadF f' g' n := by
  induction n with
  | zero => rfl
  | succ n ih => unfold sadF; rw [ih (fun j hj => h j (by omega)) (fun j hj => k j (by omega)), h n (by omega), k n (by omega)]
theorem mov_cost {W H : Int} {zs bs : List Int} {x y vx vy : Int} (hm : may W H zs) (hx : 0 ≤ x ∧ x ≤ 32) (hy : 0 ≤ y ∧ y ≤ 32) (hv : vecB vx vy = true) (hl : bs.length = 64) (hB : ∀ k, 0 ≤ bs.getD k 0 ∧ bs.getD k 0 ≤ 255) :
    cstAns (movL W H zs x y 8 vx vy) bs vx vy = none ∧ cstV (movL W H zs x y 8 vx vy) bs vx vy = scF W H zs bs x y vx vy 64 := by
  have hM : movL W H zs x y 8 vx vy = rowL 64 (mvF W H zs x y vx vy 8) := by unfold movL; rw [if_pos ⟨hm, .inr rfl, hx, hy, hv⟩]; rfl
  have hr : ∀ k, 0 ≤ mvF W H zs x y vx vy 8 k ∧ mvF W H zs x y vx vy 8 k ≤ 255 := fun k => halfV_in hm _ _
  have a1 : (rowL 64 (mvF W H zs x y vx vy 8)).any farB = false := any_no fun j z hj hz => by
    rw [rowL_length] at hj
    rw [rowL_get hj] at hz
    have := hr j
    obtain rfl := Option.some.inj hz
    unfold farB
    simp
    omega
  have a2 : bs.any farB = false := any_no fun j z hj hz => by
    have h := hB j
    rw [getD_of_get hz] at h
    unfold farB
    simp
    omega
  have hA : matAns (rowL 64 (mvF W H zs x y vx vy 8)) bs = none := by
    unfold matAns
    rw [if_pos (by rw [rowL_length, hl]), if_neg (by rw [a1, a2]; simp)]
  have hc : cstAns (movL W H zs x y 8 vx vy) bs vx vy = none := by unfold cstAns; rw [hM, hA]; show (if _ then _ else _) = _; rw [if_pos hv]
  refine ⟨hc, ?_⟩
  unfold cstV
  rw [hc, hM]
  show 4 * sadV _ _ + lenV vx vy = _
  unfold sadV
  rw [hA]
  show 4 * sadF _ _ (rowL 64 _).length + lenV vx vy = _
  rw [rowL_length, sadF_cong (f' := mvF W H zs x y vx vy 8) (g' := fun i => bs.getD i 0) (fun j hj => getD_of_get (rowL_get hj)) (fun _ _ => rfl), Int.add_comm]
  rfl
/-- a vector in a variable of the call's own -/
def VOwn (w : World) (b : Nat) (p q : Int) : Prop := VcBox w b p q ∧ w.frozen? ⟨b, 0, none⟩ = false ∧ w.frozen? ⟨b, 1, none⟩ = false
theorem VOwn.ext {w w' : World} {b : Nat} {p q : Int} (h : VOwn w b p q) (k : Ext w w') : VOwn w' b p q :=
  ⟨h.1.ext k, (Below.frozen (p := ⟨b, 0, none⟩) k (Ext.lt (p := ⟨b, 0, none⟩) h.1.1)).trans h.2.1, (Below.frozen (p := ⟨b, 1, none⟩) k (Ext.lt (p := ⟨b, 0, none⟩) h.1.1)).trans h.2.2⟩
theorem VOwn.new (w : World) (p q : Int) : VOwn (w.alloc (.cells #[.int .i64 p, .int .i64 q] 69)) w.heap.size p q := ⟨⟨by simp, by simp⟩, by simp, by simp⟩
theorem VOwn.set {w : World} {b : Nat} {p q : Int} (h : VOwn w b p q) (X Y : Int) : VOwn ((w.setCell ⟨b, 0, none⟩ (.int .i64 X)).setCell ⟨b, 1, none⟩ (.int .i64 Y)) b X Y := by
  obtain ⟨⟨h0, h1⟩, f0, f1⟩ := h
  have e0 := World.cell?_setCell_same _ _ (.int .i64 X) h0
  have e1 := World.cell?_setCell_same _ _ (.int .i64 Y) ((box_other w b 0 1 (.int .i64 X) (by decide)).trans h1)
  exact ⟨⟨(box_other _ b 1 0 _ (by decide)).trans e0, e1⟩, by simpa using f0, by simpa using f1⟩
theorem FrBox.kp {w w' : World} {g b : Nat} {W H : Int} {v : Value} (h : FrBox w g W H v) (k : Kp b w w') (hb : g ≠ b) : FrBox w' g W H v := ⟨k.cell h.1 hb, k.cell h.2.1 hb, k.cell h.2.2 hb⟩
set_option maxHeartbeats 16000000 in
set_option maxRecDepth 20000 in
theorem rsearch_yes (W H x y : Int) (R : Nat) (zs bs : List Int) (a a2 : Option Addr) (n cap n2 cap2 : Nat) (w : World) (h : Ints w (.slice a n cap) zs) (hb : Ints w (.slice a2 n2 cap2) bs) (hm : may W H zs) (hr : rngOk W H x y R) (hl : bs.length = 64) (ha : bs.any nosmpB = false) :
    Calls Tryd.prog 49 #[.agg #[.int .i64 W, .int .i64 H, .slice a n cap], .slice a2 n2 cap2, .int .i64 x, .int .i64 y, .int .i64 R] w (RVPost w (srX W H zs bs x y R) (srY W H zs bs x y R) (srE W H zs bs x y R)) := by
  have M1 := Lib.hid (fun w h => rmay_any W H zs a n cap w h)
  have H1 := Lib.hid hm
  have HR : Hid (srE W H zs bs x y R = none) := by show _ = _; unfold srE; rw [if_pos hm, if_pos hr, if_pos hl, if_neg (by rw [ha]; decide)]
  have hB := smp_of_any ha
  have hxy : (0 ≤ x ∧ x ≤ 32) ∧ 0 ≤ y ∧ y ≤ 32 := by
    have hW := sideB_true hm.1
    have hH := sideB_true hm.2.1
    unfold rngOk at hr
    omega
  have hR7 : R ≤ 7 := by unfold rngOk at hr; omega
  have HIN : Hid (∀ k, k ≤ (2 * R + 1) * (2 * R + 1) → inW (2 * R) (arS (scC W H zs bs x y) 0 0 2 R (0, 0, scC W H zs bs x y 0 0) k).1 (arS (scC W H zs bs x y) 0 0 2 R (0, 0, scC W H zs bs x y 0 0) k).2.1) := fun k hk => sr1_in _ R k hk
  obtain ⟨C0, hC0⟩ : ∃ C0, scC W H zs bs x y 0 0 = C0 := ⟨_, rfl⟩
  obtain ⟨p1, q1, l1, h1⟩ : ∃ p1 q1 l1, arS (scC W H zs bs x y) 0 0 2 R (0, 0, C0) ((2 * R + 1) * (2 * R + 1)) = (p1, q1, l1) := ⟨_, _, _, rfl⟩
  obtain ⟨p2, q2, l2, h2⟩ : ∃ p2 q2 l2, arS (scC W H zs bs x y) p1 q1 1 1 (p1, q1, l1) 9 = (p2, q2, l2) := ⟨_, _, _, rfl⟩
  have s1 := HIN.out ((2 * R + 1) * (2 * R + 1)) (Nat.le_refl _)
  rw [hC0, h1] at s1
  have t1 : sr1 (scC W H zs bs x y) R = (p1, q1, l1) := by unfold sr1; rw [hC0]; exact h1
  have t2 : sr2 (scC W H zs bs x y) R = (p2, q2, l2) := by unfold sr2; rw [t1]; exact h2
  have HX : Hid (srX W H zs bs x y R = p2 ∧ srY W H zs bs x y R = q2) := by
    unfold srX srY
    rw [HR.out]
    have e : sr2 (fun vx vy => scF W H zs bs x y vx vy 64) (R : Int).toNat = (p2, q2, l2) := t2
    exact ⟨by show (sr2 _ _).1 = _; rw [e], by show (sr2 _ _).2.1 = _; rw [e]⟩
  simp only at s1
  unfold inW at s1
  have b1 : -14 ≤ p1 ∧ p1 ≤ 14 ∧ -14 ≤ q1 ∧ q1 ≤ 14 := by omega
  obtain ⟨b11, b12, b13, b14⟩ := b1
  have UBL := Lib.hid (fun (w' : World) (vx vy : Int) (h1 : Ints w' (.slice a n cap) zs) => rblock_any W H x y 8 vx vy zs a n cap w' h1)
  have UCO : Hid (∀ (w' : World) (vx vy : Int) (u : Value), Ints w' u (movL W H zs x y 8 vx vy) → Ints w' (.slice a2 n2 cap2) bs → vecB vx vy = true → Calls Tryd.prog 46 #[u, .slice a2 n2 cap2, .agg #[.int .i64 vx, .int .i64 vy]] w' fun e w'' => ∃ c d i j, e = .returned (.tuple #[.int .i64 (scC W H zs bs x y vx vy), .agg #[.int .i64 c, .slice d i j]]) ∧ Ext w' w'') := fun w' vx vy u h1 h2 hv => by
    obtain ⟨m1, m2⟩ := mov_cost (x := x) (y := y) hm hxy.1 hxy.2 hv hl hB
    have := rcost_any (movL W H zs x y 8 vx vy) bs vx vy u (.slice a2 n2 cap2) w' h1 h2 (by unfold movL; split; (rw [rowL_length]; decide); simp)
    rw [m2] at this
    exact this.mono fun e w'' ⟨c, d, i, j, h1, h2, h3⟩ => ⟨c, d, i, j, h1, h2⟩
  have HC := Lib.hid hC0
  have K1 := Lib.hid h1
  have K2 := Lib.hid h2
  have hl2 := hb.len
  have b3 : ((n2 : Int) != 64) = false := by rw [bne_eq_false_iff_eq]; omega
  have HN := Lib.hid (fun w h => by have := within_any bs 0 255 (.slice a2 n2 cap2) w h; rwa [decide_eq_true (nosmp_within ha)] at this)
  clear hl hl2 hm ha s1 h1 h2 t1 t2 hB hxy hC0 HIN
  have hW := sideB_true H1.out.1
  have hH := sideB_true H1.out.2.1
  obtain ⟨hW1, hW2, -⟩ := hW
  obtain ⟨hH1, hH2, -⟩ := hH
  unfold rngOk at hr
  have hlb : liesB W H x y 8 = true := by unfold liesB; simp; omega
  have L1 := Lib.hid (fun w => by have := lies_any W H x y 8 (.slice a n cap) a n cap w rfl (by omega) (by omega) (by omega); rwa [hlb] at this)
  obtain ⟨⟨r1, r2⟩, ⟨x1, x2⟩, y1, y2⟩ := hr
  clear hlb
  obtain ⟨F0, V0, R0⟩ := RS.new w W H (.slice a n cap)
  have E0 : Ext w (((w.alloc (.cells #[.int .i64 W, .int .i64 H, .slice a n cap] 67)).alloc (.cells #[.int .i64 0, .int .i64 0] 69)).alloc (.cells #[.int .i64 0, .slice none 0 0] 39)) := (by repeat (first | exact Ext.refl _ | assumption | refine Ext.alloc ?_ _ | refine Ext.drew ?_ | refine Ext.drewN ?_ _ | refine Ext.setCell ?_ (by first | exact Nat.le_refl _ | (simp; done) | omega) _ | refine Ext.trans ?_ (by assumption)))
  go_enter Tryd.func49, Tryd.ntmps49
  go_wp2_with fail
  revert F0 V0 R0 E0
  generalize ((w.alloc (.cells #[.int .i64 W, .int .i64 H, .slice a n cap] 67)).alloc (.cells #[.int .i64 0, .int .i64 0] 69)).alloc (.cells #[.int .i64 0, .slice none 0 0] 39) = w0
  intro F0 V0 R0 E0
  have FB := Lib.hid F0
  have VB := Lib.hid V0
  have RB := Lib.hid R0
  clear F0 V0 R0
  refine (M1.out _ (h.ext E0)).mono ?_; rintro e w1 ⟨rfl, hx1⟩
  have E1 := E0.trans hx1
  have F1 := Lib.hid (FB.out.ext hx1)
  have V1 := Lib.hid (VB.out.ext hx1)
  have R1 := Lib.hid (RB.out.ext hx1)
  obtain ⟨z0, z1, z2⟩ := F1.out
  clear hx1 E0 FB VB RB
  rw [decide_eq_true H1.out]
  go_wp2_with fail
  refine (L1.out _).mono ?_; rintro e w2 ⟨rfl, hx2⟩
  go_wp2_with fail
  refine (HN.out _ (hb.ext (E1.trans hx2))).mono ?_; rintro e w3 ⟨rfl, hx3⟩
  have E3 := (E1.trans hx2).trans hx3
  have F3 := Lib.hid (F1.out.ext (hx2.trans hx3))
  have V3 := Lib.hid (V1.out.ext (hx2.trans hx3))
  have R3 := Lib.hid (R1.out.ext (hx2.trans hx3))
  clear E1 V1 R1 F1 z0 z1 z2 hx3 hx2
  have E4 := E3.alloc (.cells #[.int .i64 0, .int .i64 0] 69)
  have A4 : Ext w3 (w3.alloc (.cells #[.int .i64 0, .int .i64 0] 69)) := (Ext.refl w3).alloc _
  have O4 := VOwn.new w3 0 0
  go_wp2_with fail
  revert E4 A4 O4
  generalize w3.alloc (.cells #[.int .i64 0, .int .i64 0] 69) = wz
  intro E4 A4 O4
  -- REGION
  have EZ := Lib.hid E4
  have FZ := Lib.hid (F3.out.ext A4)
  have VZ := Lib.hid O4.1
  have OZ := Lib.hid O4
  have RZ := Lib.hid (R3.out.ext A4)
  have WZ := Lib.hid (V3.out.ext A4)
  have HSZ : w.heap.size + 2 < w3.heap.size := Ext.lt (p := ⟨w.heap.size + 2, 0, none⟩) R3.out.1
  have HVB : Hid (vecB 0 0 = true) := by show _ = _; decide
  have HF := Lib.hid HC.out
  have n1 : IntKind.i64.wrap (-(R : Int)) = -(R : Int) := by rw [IntKind.wrap_i64]; omega
  clear E4 A4 O4 F3 V3 R3 E3
  -- the frame, the vector and the calls in the world wz
  obtain ⟨y0, y1, y2⟩ := FZ.out
  obtain ⟨y3, y4⟩ := VZ.out
  obtain ⟨y5, y6⟩ := VZ.out.ext ((Ext.refl wz).alloc (.cells #[.int .i64 0, .slice none 0 0] 39))
  obtain ⟨y7, y8, y9⟩ := FZ.out.ext ((Ext.refl wz).alloc (.cells #[.int .i64 0, .slice none 0 0] 39))
  have HD0 : Hid (Ext wz wz.drew) := (Ext.refl wz).drew
  have HED : Hid (Ext wz (wz.alloc (.cells #[.int .i64 0, .slice none 0 0] 39)).drew) := ((Ext.refl wz).alloc _).drew
  have EN : Hid (EAt (wz.alloc (.cells #[.int .i64 0, .slice none 0 0] 39)).drew wz.heap.size 0 (.slice none 0 0)) := (EAt.new wz 0 (.slice none 0 0) rfl).ext (Ext.refl _).drew
  have UB : Hid (∀ w', Ext wz w' → Calls Tryd.prog 43 #[.agg #[.int .i64 W, .int .i64 H, .slice a n cap], .int .i64 x, .int .i64 y, .int .i64 8, .agg #[.int .i64 0, .int .i64 0]] w' fun e w'' => ∃ u, e = .returned u ∧ Ext w' w'' ∧ Ints w'' u (movL W H zs x y 8 0 0)) := fun w' hw => UBL.out w' 0 0 (h.ext (EZ.out.trans hw))
  have UC : Hid (∀ w' u, Ext wz w' → Ints w' u (movL W H zs x y 8 0 0) → Calls Tryd.prog 46 #[u, .slice a2 n2 cap2, .agg #[.int .i64 0, .int .i64 0]] w' fun e w'' => ∃ c d i j, e = .returned (.tuple #[.int .i64 C0, .agg #[.int .i64 c, .slice d i j]]) ∧ Ext w' w'') := fun w' u hw hu => by
    have := UCO.out w' 0 0 u hu (hb.ext (EZ.out.trans hw)) HVB.out
    rwa [HF.out] at this
  go_cut [13, 14] from 61 to 71 (fun s1 s2 wx => s1 = .int .i64 C0 ∧ (∃ g, s2 = .pointer (some ⟨g, 0, none⟩)) ∧ Hid (Ext wz wx))
  case first =>
    have KS : Hid (∀ w', Ext wz w' → w'.cell? ⟨w.heap.size, 0, none⟩ = some (.int .i64 W) ∧ w'.cell? ⟨w.heap.size, 1, none⟩ = some (.int .i64 H) ∧ w'.cell? ⟨w.heap.size, 2, none⟩ = some (.slice a n cap) ∧ w'.cell? ⟨w3.heap.size, 0, none⟩ = some (.int .i64 0) ∧ w'.cell? ⟨w3.heap.size, 1, none⟩ = some (.int .i64 0) ∧ Ext wz w') := fun w' h => ⟨h.cell FZ.out.1, h.cell FZ.out.2.1, h.cell FZ.out.2.2, h.cell VZ.out.1, h.cell VZ.out.2, h⟩
    have EN2 : Hid (EAt (wz.alloc (.cells #[.int .i64 0, .slice none 0 0] 39)) wz.heap.size 0 (.slice none 0 0)) := EAt.new wz 0 (.slice none 0 0) rfl
    go_region_held3 (fun w' => w'.cell? ⟨w.heap.size, 0, none⟩ = some (.int .i64 W) ∧ w'.cell? ⟨w.heap.size, 1, none⟩ = some (.int .i64 H) ∧ w'.cell? ⟨w.heap.size, 2, none⟩ = some (.slice a n cap) ∧ w'.cell? ⟨w3.heap.size, 0, none⟩ = some (.int .i64 0) ∧ w'.cell? ⟨w3.heap.size, 1, none⟩ = some (.int .i64 0) ∧ Ext wz w')
      (first | assumption | (go_split_ands; exact KS.out _ (by repeat (first | exact Ext.refl _ | assumption | refine Ext.drew ?_ | refine Ext.alloc ?_ _ | refine Ext.setCell ?_ (by first | exact Nat.le_refl _ | exact (Ext.size (by assumption)) | (simp; done)) _ | refine Ext.trans ?_ (by assumption)))))
      ((first
        | (go_at_call 43; obtain ⟨_, _, _, _, _, hE1⟩ : _ ∧ _ ∧ _ ∧ _ ∧ _ ∧ Ext wz _ := (by assumption); refine (UB.out _ hE1).mono ?_; rintro e w6 ⟨u6, rfl, hx6, hi6⟩; have I6 := Lib.hid hi6; have E6 := Lib.hid (hE1.trans hx6); (try (have B6 := Lib.hid (EN.out.ext hx6); obtain ⟨⟨b0, b1, b2, b4⟩, -⟩ := B6.out)); clear hE1 hi6)
        | (go_at_call 46; obtain ⟨_, _, _, _, _, hE1⟩ : _ ∧ _ ∧ _ ∧ _ ∧ _ ∧ Ext wz _ := (by assumption); refine (UC.out _ _ hE1 (by first | exact I6.out | exact I6.out.ext ((Ext.refl _).alloc _))).mono ?_; rintro e w7 ⟨ce, ea, em, ek, rfl, hx7⟩; (try (have B7 := Lib.hid (B6.out.ext hx7); obtain ⟨⟨k0, k1, k2, k3⟩, -⟩ := B7.out)); (try (have B7 := Lib.hid ((EAt.new w6 0 (.slice none 0 0) rfl).ext hx7); obtain ⟨⟨k0, k1, k2, k3⟩, -⟩ := B7.out)); clear hE1)))
    all_goals obtain ⟨_, _, _, _, _, hE1⟩ : _ ∧ _ ∧ _ ∧ _ ∧ _ ∧ Ext wz _ := by assumption
    all_goals go_wp2_with fail
    all_goals go_meet
    all_goals exact ⟨rfl, ⟨_, rfl⟩, hE1⟩
  case rest =>
    clear HD0 HED EN UB UC y0 y1 y2 y3 y4 y5 y6 y7 y8 y9
    obtain ⟨rfl, ⟨gE, rfl⟩, EX⟩ := hcut
    obtain ⟨wb, rfl⟩ : ∃ wb : World, wb = wc := ⟨_, rfl⟩
    have EW := Lib.hid (EZ.out.trans EX.out)
    have FW := Lib.hid (FZ.out.ext EX.out)
    have OW := Lib.hid (OZ.out.ext EX.out)
    have RW := Lib.hid (RZ.out.ext EX.out)
    have WW := Lib.hid (WZ.out.ext EX.out)
    clear EZ FZ VZ OZ RZ WZ EX HVB HF
    go_wp2_with fail
    go_loopw [13, 15] (fun lv jv wr => ∃ (j : Nat) (p q r : Int), j ≤ (2 * R + 1) ∧ jv = .int .i64 (((j : Nat) : Int) - (R : Int)) ∧ lv = .int .i64 r ∧ Hid (arS (scC W H zs bs x y) 0 0 2 R (0, 0, C0) (j * (2 * R + 1)) = (p, q, r)) ∧ Hid (VOwn wr w3.heap.size p q) ∧ Hid (Kp w3.heap.size wb wr)) (fun _ jv _ => (((2 * R + 1 : Nat) : Int) - (R : Int) + 1 - intOf jv).toNat)
    case atStart => exact ⟨0, 0, 0, C0, Nat.zero_le _, i64_eq (by omega), rfl, by show _ = _; rw [Nat.zero_mul]; rfl, OW.out, Kp.refl _ _⟩
    case round =>
      obtain ⟨j, p, q, r, hj, rfl, rfl, HA, OR, HK⟩ := hrel
      by_cases hlt : j < (2 * R + 1)
      · have t1 : ((j : Nat) : Int) - (R : Int) ≤ (R : Int) := by omega
        go_wp2_with fail
        go_loopw [13, 16] (fun lv iv wr => ∃ (i : Nat) (p q r : Int), i ≤ (2 * R + 1) ∧ iv = .int .i64 (((i : Nat) : Int) - (R : Int)) ∧ lv = .int .i64 r ∧ Hid (arS (scC W H zs bs x y) 0 0 2 R (0, 0, C0) (j * (2 * R + 1) + i) = (p, q, r)) ∧ Hid (VOwn wr w3.heap.size p q) ∧ Hid (Kp w3.heap.size wb wr)) (fun _ iv _ => (((2 * R + 1 : Nat) : Int) - (R : Int) + 1 - intOf iv).toNat)
        case atStart => exact ⟨0, p, q, r, Nat.zero_le _, i64_eq (by omega), rfl, HA.out, OR.out, HK.out⟩
        case round =>
          clear HA OR HK
          obtain ⟨i, p, q, r, hi, rfl, rfl, HA, OR, HK⟩ := hrel
          by_cases hit : i < (2 * R + 1)
          · have EWR := Lib.hid (Kp.out EW.out HK.out (by omega))
            have hBS : w3.heap.size < wr.heap.size := Ext.lt (p := ⟨w3.heap.size, 0, none⟩) OR.out.1.1
            obtain ⟨vx, hvx⟩ : ∃ vx, 2 * ((i : Int) - (R : Int)) = vx := ⟨_, rfl⟩
            obtain ⟨vy, hvy⟩ : ∃ vy, 2 * ((j : Int) - (R : Int)) = vy := ⟨_, rfl⟩
            have e1 : IntKind.i64.wrap (2 * ((i : Int) - (R : Int))) = vx := by rw [hvx, IntKind.wrap_i64]; omega
            have e2 : IntKind.i64.wrap (2 * ((j : Int) - (R : Int))) = vy := by rw [hvy, IntKind.wrap_i64]; omega
            have HS1 : Hid (arS (scC W H zs bs x y) 0 0 2 R (0, 0, C0) (j * (2 * R + 1) + (i + 1)) = arStep (scC W H zs bs x y) (p, q, r) vx vy) := by
              show _ = _
              rw [arS_at _ _ _ _ _ _ _ _ hit, HA.out, show arV 0 2 R i = vx by unfold arV; omega, show arV 0 2 R j = vy by unfold arV; omega]
            have HVB : Hid (vecB vx vy = true) := by show _ = _; unfold vecB; exact decide_eq_true (by omega)
            obtain ⟨F, hF⟩ : ∃ F, scC W H zs bs x y vx vy = F := ⟨_, rfl⟩
            have HF := Lib.hid hF
            clear hF hvx hvy
            have EY : Ext wr (wr.alloc (.cells #[.int .i64 vx, .int .i64 vy] 69)) := (Ext.refl wr).alloc _
            have VY : VcBox (wr.alloc (.cells #[.int .i64 vx, .int .i64 vy] 69)) wr.heap.size vx vy := ⟨by simp, by simp⟩
            go_wp2_with fail
            revert EY VY
            generalize wr.alloc (.cells #[.int .i64 vx, .int .i64 vy] 69) = wy
            intro EY VY

            have EZ := Lib.hid (EWR.out.trans EY)
            have FZ := Lib.hid ((FW.out.kp HK.out (by omega)).ext EY)
            have VZ := Lib.hid VY
            have OZ := Lib.hid (OR.out.ext EY)
            have HEY := Lib.hid EY
            clear EY VY
            -- the frame, the vector and the calls in the world wy
            obtain ⟨y0, y1, y2⟩ := FZ.out
            obtain ⟨y3, y4⟩ := VZ.out
            obtain ⟨y5, y6⟩ := VZ.out.ext ((Ext.refl wy).alloc (.cells #[.int .i64 0, .slice none 0 0] 39))
            obtain ⟨y7, y8, y9⟩ := FZ.out.ext ((Ext.refl wy).alloc (.cells #[.int .i64 0, .slice none 0 0] 39))
            have HD0 : Hid (Ext wy wy.drew) := (Ext.refl wy).drew
            have HED : Hid (Ext wy (wy.alloc (.cells #[.int .i64 0, .slice none 0 0] 39)).drew) := ((Ext.refl wy).alloc _).drew
            have EN : Hid (EAt (wy.alloc (.cells #[.int .i64 0, .slice none 0 0] 39)).drew wy.heap.size 0 (.slice none 0 0)) := (EAt.new wy 0 (.slice none 0 0) rfl).ext (Ext.refl _).drew
            have UB : Hid (∀ w', Ext wy w' → Calls Tryd.prog 43 #[.agg #[.int .i64 W, .int .i64 H, .slice a n cap], .int .i64 x, .int .i64 y, .int .i64 8, .agg #[.int .i64 vx, .int .i64 vy]] w' fun e w'' => ∃ u, e = .returned u ∧ Ext w' w'' ∧ Ints w'' u (movL W H zs x y 8 vx vy)) := fun w' hw => UBL.out w' vx vy (h.ext (EZ.out.trans hw))
            have UC : Hid (∀ w' u, Ext wy w' → Ints w' u (movL W H zs x y 8 vx vy) → Calls Tryd.prog 46 #[u, .slice a2 n2 cap2, .agg #[.int .i64 vx, .int .i64 vy]] w' fun e w'' => ∃ c d i j, e = .returned (.tuple #[.int .i64 F, .agg #[.int .i64 c, .slice d i j]]) ∧ Ext w' w'') := fun w' u hw hu => by
              have := UCO.out w' vx vy u hu (hb.ext (EZ.out.trans hw)) HVB.out
              rwa [HF.out] at this
            go_cut [18, 19] from 81 to 106 (fun s1 s2 wx => s1 = .int .i64 F ∧ (∃ g, s2 = .pointer (some ⟨g, 0, none⟩)) ∧ Hid (Ext wy wx))
            case first =>
              have KS : Hid (∀ w', Ext wy w' → w'.cell? ⟨w.heap.size, 0, none⟩ = some (.int .i64 W) ∧ w'.cell? ⟨w.heap.size, 1, none⟩ = some (.int .i64 H) ∧ w'.cell? ⟨w.heap.size, 2, none⟩ = some (.slice a n cap) ∧ w'.cell? ⟨wr.heap.size, 0, none⟩ = some (.int .i64 vx) ∧ w'.cell? ⟨wr.heap.size, 1, none⟩ = some (.int .i64 vy) ∧ Ext wy w') := fun w' h => ⟨h.cell FZ.out.1, h.cell FZ.out.2.1, h.cell FZ.out.2.2, h.cell VZ.out.1, h.cell VZ.out.2, h⟩
              have EN2 : Hid (EAt (wy.alloc (.cells #[.int .i64 0, .slice none 0 0] 39)) wy.heap.size 0 (.slice none 0 0)) := EAt.new wy 0 (.slice none 0 0) rfl
              go_region_held3 (fun w' => w'.cell? ⟨w.heap.size, 0, none⟩ = some (.int .i64 W) ∧ w'.cell? ⟨w.heap.size, 1, none⟩ = some (.int .i64 H) ∧ w'.cell? ⟨w.heap.size, 2, none⟩ = some (.slice a n cap) ∧ w'.cell? ⟨wr.heap.size, 0, none⟩ = some (.int .i64 vx) ∧ w'.cell? ⟨wr.heap.size, 1, none⟩ = some (.int .i64 vy) ∧ Ext wy w')
                (first | assumption | (go_split_ands; exact KS.out _ (by repeat (first | exact Ext.refl _ | assumption | refine Ext.drew ?_ | refine Ext.alloc ?_ _ | refine Ext.setCell ?_ (by first | exact Nat.le_refl _ | exact (Ext.size (by assumption)) | (simp; done)) _ | refine Ext.trans ?_ (by assumption)))))
                ((first
                  | (go_at_call 43; obtain ⟨_, _, _, _, _, hE1⟩ : _ ∧ _ ∧ _ ∧ _ ∧ _ ∧ Ext wy _ := (by assumption); refine (UB.out _ hE1).mono ?_; rintro e w6 ⟨u6, rfl, hx6, hi6⟩; have I6 := Lib.hid hi6; have E6 := Lib.hid (hE1.trans hx6); (try (have B6 := Lib.hid (EN.out.ext hx6); obtain ⟨⟨b0, b1, b2, b4⟩, -⟩ := B6.out)); clear hE1 hi6)
                  | (go_at_call 46; obtain ⟨_, _, _, _, _, hE1⟩ : _ ∧ _ ∧ _ ∧ _ ∧ _ ∧ Ext wy _ := (by assumption); refine (UC.out _ _ hE1 (by first | exact I6.out | exact I6.out.ext ((Ext.refl _).alloc _))).mono ?_; rintro e w7 ⟨ce, ea, em, ek, rfl, hx7⟩; (try (have B7 := Lib.hid (B6.out.ext hx7); obtain ⟨⟨k0, k1, k2, k3⟩, -⟩ := B7.out)); (try (have B7 := Lib.hid ((EAt.new w6 0 (.slice none 0 0) rfl).ext hx7); obtain ⟨⟨k0, k1, k2, k3⟩, -⟩ := B7.out)); clear hE1)))
              all_goals obtain ⟨_, _, _, _, _, hE1⟩ : _ ∧ _ ∧ _ ∧ _ ∧ _ ∧ Ext wy _ := by assumption
              all_goals go_wp2_with fail
              all_goals go_meet
              all_goals exact ⟨rfl, ⟨_, rfl⟩, hE1⟩
            case rest =>
              clear HD0 HED EN UB UC y0 y1 y2 y3 y4 y5 y6 y7 y8 y9
              obtain ⟨rfl, ⟨gE, rfl⟩, EX⟩ := hcut
              have OX := Lib.hid (OZ.out.ext EX.out)
              have EYX := Lib.hid (HEY.out.trans EX.out)
              obtain ⟨x0, x1⟩ := VZ.out.ext EX.out
              obtain ⟨⟨o0, o1⟩, g0, g1⟩ := OX.out
              by_cases hc : F < r
              · go_wp2
                go_roundw
                case rel => first | exact ⟨i + 1, vx, vy, F, by omega, i64_eq (by omega), rfl, by show _ = _; rw [HS1.out]; unfold arStep; rw [HF.out, if_pos hc], OX.out.set vx vy, ((HK.out.ext EYX.out).set 0 _).set 1 _⟩ | ((repeat apply Exists.intro); exact ⟨⟨i + 1, vx, vy, F, by omega, i64_eq (by omega), rfl, by show _ = _; rw [HS1.out]; unfold arStep; rw [HF.out, if_pos hc], OX.out.set vx vy, ((HK.out.ext EYX.out).set 0 _).set 1 _⟩, rfl⟩)
                case measure => simp [intOf]; omega
              · go_wp2
                go_roundw
                case rel => first | exact ⟨i + 1, p, q, r, by omega, i64_eq (by omega), rfl, by show _ = _; rw [HS1.out]; unfold arStep; rw [HF.out, if_neg (show ¬ F < r by omega)], OX.out, HK.out.ext EYX.out⟩ | ((repeat apply Exists.intro); exact ⟨⟨i + 1, p, q, r, by omega, i64_eq (by omega), rfl, by show _ = _; rw [HS1.out]; unfold arStep; rw [HF.out, if_neg (show ¬ F < r by omega)], OX.out, HK.out.ext EYX.out⟩, rfl⟩) | exact ⟨i + 1, by omega, by omega, p, q, by show _ = _; rw [HS1.out]; unfold arStep; rw [HF.out, if_neg (show ¬ F < r by omega)], OX.out, HK.out.ext EYX.out⟩
                case measure => simp [intOf]; omega
          · obtain rfl : i = (2 * R + 1) := by omega
            go_wp2
            go_roundw
            case rel => first | exact ⟨j + 1, p, q, r, by omega, i64_eq (by omega), rfl, by show _ = _; rw [Nat.succ_mul]; exact HA.out, OR.out, HK.out⟩ | ((repeat apply Exists.intro); exact ⟨⟨j + 1, p, q, r, by omega, i64_eq (by omega), rfl, by show _ = _; rw [Nat.succ_mul]; exact HA.out, OR.out, HK.out⟩, rfl⟩)
            case measure => simp [intOf]; omega
      · obtain rfl : j = (2 * R + 1) := by omega
        obtain ⟨rfl, rfl, rfl⟩ : p1 = p ∧ q1 = q ∧ l1 = r := by have := K1.out.symm.trans HA.out; simp only [Prod.mk.injEq] at this; exact this
        -- the second search
        obtain ⟨w9, rfl⟩ : ∃ w9 : World, w9 = wr := ⟨_, rfl⟩
        have EB := Kp.out EW.out HK.out (by omega)
        have hB2 : w3.heap.size < w9.heap.size := Ext.lt (p := ⟨w3.heap.size, 0, none⟩) OR.out.1.1
        have AB : Ext w9 (w9.alloc (.cells #[.int .i64 p1, .int .i64 q1] 69)) := (Ext.refl w9).alloc _
        have UBX : VcBox (w9.alloc (.cells #[.int .i64 p1, .int .i64 q1] 69)) w9.heap.size p1 q1 := ⟨by simp, by simp⟩
        obtain ⟨⟨o0, o1⟩, -, -⟩ := OR.out
        go_wp2_with fail
        clear o0 o1
        have E2 := Lib.hid (EB.trans AB)
        have F2 := Lib.hid ((FW.out.kp HK.out (by omega)).ext AB)
        have W2 := Lib.hid ((WW.out.kp HK.out (by omega)).ext AB)
        have R2 := Lib.hid ((RW.out.kp HK.out (by omega)).ext AB)
        have O2 := Lib.hid (OR.out.ext AB)
        have U2 := Lib.hid UBX
        clear EB AB UBX EW FW WW RW OW HK OR HA
        revert E2 F2 W2 R2 O2 U2
        generalize hwd : w9.alloc (.cells #[.int .i64 p1, .int .i64 q1] 69) = wd
        intro E2 F2 W2 R2 O2 U2
        clear hwd
        have EW := E2
        have FW := F2
        have WW := W2
        have RW := R2
        have OW := O2
        clear E2 F2 W2 R2 O2
        go_wp2_with fail
        go_loopw [13, 21] (fun lv jv wr => ∃ (j : Nat) (p q r : Int), j ≤ 3 ∧ jv = .int .i64 (((j : Nat) : Int) - 1) ∧ lv = .int .i64 r ∧ Hid (arS (scC W H zs bs x y) p1 q1 1 1 (p1, q1, l1) (j * 3) = (p, q, r)) ∧ Hid (VOwn wr w3.heap.size p q) ∧ Hid (Kp w3.heap.size wd wr)) (fun _ jv _ => (((2 * 1 + 1 : Nat) : Int) - 1 + 1 - intOf jv).toNat)
        case atStart => exact ⟨0, p1, q1, l1, Nat.zero_le _, i64_eq (by omega), rfl, by show _ = _; rw [Nat.zero_mul]; rfl, OW.out, Kp.refl _ _⟩
        case round =>
          obtain ⟨j, p, q, r, hj, rfl, rfl, HA, OR, HK⟩ := hrel
          by_cases hlt : j < 3
          · have t1 : ((j : Nat) : Int) - 1 ≤ (1 : Int) := by omega
            go_wp2_with fail
            go_loopw [13, 22] (fun lv iv wr => ∃ (i : Nat) (p q r : Int), i ≤ 3 ∧ iv = .int .i64 (((i : Nat) : Int) - 1) ∧ lv = .int .i64 r ∧ Hid (arS (scC W H zs bs x y) p1 q1 1 1 (p1, q1, l1) (j * 3 + i) = (p, q, r)) ∧ Hid (VOwn wr w3.heap.size p q) ∧ Hid (Kp w3.heap.size wd wr)) (fun _ iv _ => (((2 * 1 + 1 : Nat) : Int) - 1 + 1 - intOf iv).toNat)
            case atStart => exact ⟨0, p, q, r, Nat.zero_le _, i64_eq (by omega), rfl, HA.out, OR.out, HK.out⟩
            case round =>
              clear HA OR HK
              obtain ⟨i, p, q, r, hi, rfl, rfl, HA, OR, HK⟩ := hrel
              by_cases hit : i < 3
              · have EWR := Lib.hid (Kp.out EW.out HK.out (by omega))
                have hBS : w3.heap.size < wr.heap.size := Ext.lt (p := ⟨w3.heap.size, 0, none⟩) OR.out.1.1
                obtain ⟨vx, hvx⟩ : ∃ vx, p1 + ((i : Int) - 1) = vx := ⟨_, rfl⟩
                obtain ⟨vy, hvy⟩ : ∃ vy, q1 + ((j : Int) - 1) = vy := ⟨_, rfl⟩
                have e1 : IntKind.i64.wrap (p1 + ((i : Int) - 1)) = vx := by rw [hvx, IntKind.wrap_i64]; omega
                have e2 : IntKind.i64.wrap (q1 + ((j : Int) - 1)) = vy := by rw [hvy, IntKind.wrap_i64]; omega
                obtain ⟨i0, i1⟩ := U2.out.kp HK.out (by omega)
                have HS1 : Hid (arS (scC W H zs bs x y) p1 q1 1 1 (p1, q1, l1) (j * 3 + (i + 1)) = arStep (scC W H zs bs x y) (p, q, r) vx vy) := by
                  show _ = _
                  rw [show j * 3 + (i + 1) = j * (2 * 1 + 1) + (i + 1) from rfl, arS_at _ _ _ _ _ _ _ _ hit, show j * (2 * 1 + 1) + i = j * 3 + i from rfl, HA.out, show arV p1 1 1 i = vx by unfold arV; omega, show arV q1 1 1 j = vy by unfold arV; omega]
                have HVB : Hid (vecB vx vy = true) := by show _ = _; unfold vecB; exact decide_eq_true (by omega)
                obtain ⟨F, hF⟩ : ∃ F, scC W H zs bs x y vx vy = F := ⟨_, rfl⟩
                have HF := Lib.hid hF
                clear hF hvx hvy
                have EY : Ext wr (wr.alloc (.cells #[.int .i64 vx, .int .i64 vy] 69)) := (Ext.refl wr).alloc _
                have VY : VcBox (wr.alloc (.cells #[.int .i64 vx, .int .i64 vy] 69)) wr.heap.size vx vy := ⟨by simp, by simp⟩
                go_wp2_with fail
                revert EY VY
                generalize wr.alloc (.cells #[.int .i64 vx, .int .i64 vy] 69) = wy
                intro EY VY
                obtain ⟨i2, i3⟩ := VY
                refine (rvec_any vx vy _).mono ?_; rintro e w8 ⟨rfl, hx8⟩
                rw [HVB.out]
                have VY : VcBox w8 wr.heap.size vx vy := VcBox.ext ⟨i2, i3⟩ hx8
                have EY := EY.trans hx8
                clear i2 i3 hx8 i0 i1
                go_wp2_with fail
                have EZ := Lib.hid (EWR.out.trans EY)
                have FZ := Lib.hid ((FW.out.kp HK.out (by omega)).ext EY)
                have VZ := Lib.hid VY
                have OZ := Lib.hid (OR.out.ext EY)
                have HEY := Lib.hid EY
                clear EY VY
                -- the frame, the vector and the calls in the world w8
                obtain ⟨y0, y1, y2⟩ := FZ.out
                obtain ⟨y3, y4⟩ := VZ.out
                obtain ⟨y5, y6⟩ := VZ.out.ext ((Ext.refl w8).alloc (.cells #[.int .i64 0, .slice none 0 0] 39))
                obtain ⟨y7, y8, y9⟩ := FZ.out.ext ((Ext.refl w8).alloc (.cells #[.int .i64 0, .slice none 0 0] 39))
                have HD0 : Hid (Ext w8 w8.drew) := (Ext.refl w8).drew
                have HED : Hid (Ext w8 (w8.alloc (.cells #[.int .i64 0, .slice none 0 0] 39)).drew) := ((Ext.refl w8).alloc _).drew
                have EN : Hid (EAt (w8.alloc (.cells #[.int .i64 0, .slice none 0 0] 39)).drew w8.heap.size 0 (.slice none 0 0)) := (EAt.new w8 0 (.slice none 0 0) rfl).ext (Ext.refl _).drew
                have UB : Hid (∀ w', Ext w8 w' → Calls Tryd.prog 43 #[.agg #[.int .i64 W, .int .i64 H, .slice a n cap], .int .i64 x, .int .i64 y, .int .i64 8, .agg #[.int .i64 vx, .int .i64 vy]] w' fun e w'' => ∃ u, e = .returned u ∧ Ext w' w'' ∧ Ints w'' u (movL W H zs x y 8 vx vy)) := fun w' hw => UBL.out w' vx vy (h.ext (EZ.out.trans hw))
                have UC : Hid (∀ w' u, Ext w8 w' → Ints w' u (movL W H zs x y 8 vx vy) → Calls Tryd.prog 46 #[u, .slice a2 n2 cap2, .agg #[.int .i64 vx, .int .i64 vy]] w' fun e w'' => ∃ c d i j, e = .returned (.tuple #[.int .i64 F, .agg #[.int .i64 c, .slice d i j]]) ∧ Ext w' w'') := fun w' u hw hu => by
                  have := UCO.out w' vx vy u hu (hb.ext (EZ.out.trans hw)) HVB.out
                  rwa [HF.out] at this
                go_cut [24, 25] from 112 to 143 (fun s1 s2 wx => s1 = .int .i64 F ∧ (∃ g, s2 = .pointer (some ⟨g, 0, none⟩)) ∧ Hid (Ext w8 wx))
                case first =>
                  have KS : Hid (∀ w', Ext w8 w' → w'.cell? ⟨w.heap.size, 0, none⟩ = some (.int .i64 W) ∧ w'.cell? ⟨w.heap.size, 1, none⟩ = some (.int .i64 H) ∧ w'.cell? ⟨w.heap.size, 2, none⟩ = some (.slice a n cap) ∧ w'.cell? ⟨wr.heap.size, 0, none⟩ = some (.int .i64 vx) ∧ w'.cell? ⟨wr.heap.size, 1, none⟩ = some (.int .i64 vy) ∧ Ext w8 w') := fun w' h => ⟨h.cell FZ.out.1, h.cell FZ.out.2.1, h.cell FZ.out.2.2, h.cell VZ.out.1, h.cell VZ.out.2, h⟩
                  have EN2 : Hid (EAt (w8.alloc (.cells #[.int .i64 0, .slice none 0 0] 39)) w8.heap.size 0 (.slice none 0 0)) := EAt.new w8 0 (.slice none 0 0) rfl
                  go_region_held3 (fun w' => w'.cell? ⟨w.heap.size, 0, none⟩ = some (.int .i64 W) ∧ w'.cell? ⟨w.heap.size, 1, none⟩ = some (.int .i64 H) ∧ w'.cell? ⟨w.heap.size, 2, none⟩ = some (.slice a n cap) ∧ w'.cell? ⟨wr.heap.size, 0, none⟩ = some (.int .i64 vx) ∧ w'.cell? ⟨wr.heap.size, 1, none⟩ = some (.int .i64 vy) ∧ Ext w8 w')
                    (first | assumption | (go_split_ands; exact KS.out _ (by repeat (first | exact Ext.refl _ | assumption | refine Ext.drew ?_ | refine Ext.alloc ?_ _ | refine Ext.setCell ?_ (by first | exact Nat.le_refl _ | exact (Ext.size (by assumption)) | (simp; done)) _ | refine Ext.trans ?_ (by assumption)))))
                    ((first
                      | (go_at_call 43; obtain ⟨_, _, _, _, _, hE1⟩ : _ ∧ _ ∧ _ ∧ _ ∧ _ ∧ Ext w8 _ := (by assumption); refine (UB.out _ hE1).mono ?_; rintro e w6 ⟨u6, rfl, hx6, hi6⟩; have I6 := Lib.hid hi6; have E6 := Lib.hid (hE1.trans hx6); (try (have B6 := Lib.hid (EN.out.ext hx6); obtain ⟨⟨b0, b1, b2, b4⟩, -⟩ := B6.out)); clear hE1 hi6)
                      | (go_at_call 46; obtain ⟨_, _, _, _, _, hE1⟩ : _ ∧ _ ∧ _ ∧ _ ∧ _ ∧ Ext w8 _ := (by assumption); refine (UC.out _ _ hE1 (by first | exact I6.out | exact I6.out.ext ((Ext.refl _).alloc _))).mono ?_; rintro e w7 ⟨ce, ea, em, ek, rfl, hx7⟩; (try (have B7 := Lib.hid (B6.out.ext hx7); obtain ⟨⟨k0, k1, k2, k3⟩, -⟩ := B7.out)); (try (have B7 := Lib.hid ((EAt.new w6 0 (.slice none 0 0) rfl).ext hx7); obtain ⟨⟨k0, k1, k2, k3⟩, -⟩ := B7.out)); clear hE1)))
                  all_goals obtain ⟨_, _, _, _, _, hE1⟩ : _ ∧ _ ∧ _ ∧ _ ∧ _ ∧ Ext w8 _ := by assumption
                  all_goals go_wp2_with fail
                  all_goals go_meet
                  all_goals exact ⟨rfl, ⟨_, rfl⟩, hE1⟩
                case rest =>
                  clear HD0 HED EN UB UC y0 y1 y2 y3 y4 y5 y6 y7 y8 y9
                  obtain ⟨rfl, ⟨gE, rfl⟩, EX⟩ := hcut
                  have OX := Lib.hid (OZ.out.ext EX.out)
                  have EYX := Lib.hid (HEY.out.trans EX.out)
                  obtain ⟨x0, x1⟩ := VZ.out.ext EX.out
                  obtain ⟨⟨o0, o1⟩, g0, g1⟩ := OX.out
                  by_cases hc : F < r
                  · go_wp2
                    go_roundw
                    case rel => first | exact ⟨i + 1, vx, vy, F, by omega, i64_eq (by omega), rfl, by show _ = _; rw [HS1.out]; unfold arStep; rw [HF.out, if_pos hc], OX.out.set vx vy, ((HK.out.ext EYX.out).set 0 _).set 1 _⟩ | ((repeat apply Exists.intro); exact ⟨⟨i + 1, vx, vy, F, by omega, i64_eq (by omega), rfl, by show _ = _; rw [HS1.out]; unfold arStep; rw [HF.out, if_pos hc], OX.out.set vx vy, ((HK.out.ext EYX.out).set 0 _).set 1 _⟩, rfl⟩)
                    case measure => simp [intOf]; omega
                  · go_wp2
                    go_roundw
                    case rel => first | exact ⟨i + 1, p, q, r, by omega, i64_eq (by omega), rfl, by show _ = _; rw [HS1.out]; unfold arStep; rw [HF.out, if_neg (show ¬ F < r by omega)], OX.out, HK.out.ext EYX.out⟩ | ((repeat apply Exists.intro); exact ⟨⟨i + 1, p, q, r, by omega, i64_eq (by omega), rfl, by show _ = _; rw [HS1.out]; unfold arStep; rw [HF.out, if_neg (show ¬ F < r by omega)], OX.out, HK.out.ext EYX.out⟩, rfl⟩) | exact ⟨i + 1, by omega, by omega, p, q, by show _ = _; rw [HS1.out]; unfold arStep; rw [HF.out, if_neg (show ¬ F < r by omega)], OX.out, HK.out.ext EYX.out⟩
                    case measure => simp [intOf]; omega
              · obtain rfl : i = 3 := by omega
                go_wp2
                go_roundw
                case rel => first | exact ⟨j + 1, p, q, r, by omega, i64_eq (by omega), rfl, by show _ = _; rw [Nat.succ_mul]; exact HA.out, OR.out, HK.out⟩ | ((repeat apply Exists.intro); exact ⟨⟨j + 1, p, q, r, by omega, i64_eq (by omega), rfl, by show _ = _; rw [Nat.succ_mul]; exact HA.out, OR.out, HK.out⟩, rfl⟩)
                case measure => simp [intOf]; omega
          · obtain rfl : j = 3 := by omega
            obtain ⟨rfl, rfl, rfl⟩ : p2 = p ∧ q2 = q ∧ l2 = r := by have := K2.out.symm.trans HA.out; simp only [Prod.mk.injEq] at this; exact this
            have EE := Kp.out EW.out HK.out (by omega)
            have VE := Lib.hid (WW.out.kp HK.out (by omega))
            have RE := Lib.hid (RW.out.kp HK.out (by omega))
            obtain ⟨⟨q3, q4⟩, q5, q6⟩ := VE.out
            obtain ⟨g3, g4, g5, g6⟩ := RE.out
            obtain ⟨⟨o0, o1⟩, -, -⟩ := OR.out
            go_wp2
            obtain ⟨e0, e1, e2, e3⟩ := vr_set VE.out RE.out (by omega) p2 q2 0 (.slice none 0 0)
            exact bodyPost_ret (v := .tuple #[.agg #[.int .i64 p2, .int .i64 q2], .agg #[.int .i64 0, .slice none 0 0]]) (by simp [results, Tryd.results49, go_sem, e0, e1, e2, e3]) rfl ⟨_, _, _, _, by rw [HX.out.1, HX.out.2], (((EE.setCell (p := ⟨w.heap.size + 1, 0, none⟩) (Nat.le_succ _) _).setCell (p := ⟨w.heap.size + 1, 1, none⟩) (Nat.le_succ _) _).setCell (p := ⟨w.heap.size + 2, 0, none⟩) (by simp) _).setCell (p := ⟨w.heap.size + 2, 1, none⟩) (by simp) _, by rw [HR.out]; exact RErrIs.zero⟩
end Go.Proofs.YtaamnpbhmckpbaaDoor

/- kinref11.Half: its contract over this seat's translation. -/
namespace Go.Proofs.YtaamnpbhmckpbaaDoor
set_option linter.unusedVariables false
set_option linter.unusedSimpArgs false
open Go.RowKit Go.Extern.Stop Go.Stop Go.Extern

set_option maxRecDepth 20000 in
set_option maxHeartbeats 2000000 in
theorem rHalf_any (W H hx hy : Int) (zs : List Int) (a : Option Addr) (n cap : Nat) (w : World) (h : Ints w (.slice a n cap) zs) :
    Calls Tryd.prog 40 #[.agg #[.int .i64 W, .int .i64 H, .slice a n cap], .int .i64 hx, .int .i64 hy] w fun e w' => e = .returned (.int .i64 (halfA W H zs hx hy)) ∧ Ext w w' := by
  have M1 := Lib.hid (fun w h => rmay_any W H zs a n cap w h)
  by_cases h1 : may W H zs
  · have H1 := Lib.hid h1
    by_cases c1 : hx < -65536
    · have HR : Hid (halfA W H zs hx hy = 0) := by show _ = _; unfold halfA; rw [if_neg (fun e => by have a1 := hfarB_no e.2.1; have a2 := hfarB_no e.2.2; omega)]
      clear h1
      go_enter Tryd.func40, Tryd.ntmps40
      go_wp2_with fail
      refine (M1.out _ (h.ext (by repeat (first | exact Ext.refl _ | assumption | refine Ext.alloc ?_ _ | refine Ext.drew ?_ | refine Ext.drewN ?_ _ | refine Ext.setCell ?_ (by first | exact Nat.le_refl _ | (simp; done) | omega) _ | refine Ext.trans ?_ (by assumption))))).mono ?_; rintro e w2 ⟨rfl, hx2⟩
      rw [decide_eq_true H1.out]
      go_wp2
      go_ret
      exact ⟨by rw [HR.out]; rfl, (by repeat (first | exact Ext.refl _ | assumption | refine Ext.alloc ?_ _ | refine Ext.drew ?_ | refine Ext.drewN ?_ _ | refine Ext.setCell ?_ (by first | exact Nat.le_refl _ | (simp; done) | omega) _ | refine Ext.trans ?_ (by assumption)))⟩
    · by_cases c2 : 65536 < hx
      · have HR : Hid (halfA W H zs hx hy = 0) := by show _ = _; unfold halfA; rw [if_neg (fun e => by have a1 := hfarB_no e.2.1; have a2 := hfarB_no e.2.2; omega)]
        clear h1
        go_enter Tryd.func40, Tryd.ntmps40
        go_wp2_with fail
        refine (M1.out _ (h.ext (by repeat (first | exact Ext.refl _ | assumption | refine Ext.alloc ?_ _ | refine Ext.drew ?_ | refine Ext.drewN ?_ _ | refine Ext.setCell ?_ (by first | exact Nat.le_refl _ | (simp; done) | omega) _ | refine Ext.trans ?_ (by assumption))))).mono ?_; rintro e w2 ⟨rfl, hx2⟩
        rw [decide_eq_true H1.out]
        go_wp2
        go_ret
        exact ⟨by rw [HR.out]; rfl, (by repeat (first | exact Ext.refl _ | assumption | refine Ext.alloc ?_ _ | refine Ext.drew ?_ | refine Ext.drewN ?_ _ | refine Ext.setCell ?_ (by first | exact Nat.le_refl _ | (simp; done) | omega) _ | refine Ext.trans ?_ (by assumption)))⟩
      · by_cases c3 : hy < -65536
        · have HR : Hid (halfA W H zs hx hy = 0) := by show _ = _; unfold halfA; rw [if_neg (fun e => by have a1 := hfarB_no e.2.1; have a2 := hfarB_no e.2.2; omega)]
          clear h1
          go_enter Tryd.func40, Tryd.ntmps40
          go_wp2_with fail
          refine (M1.out _ (h.ext (by repeat (first | exact Ext.refl _ | assumption | refine Ext.alloc ?_ _ | refine Ext.drew ?_ | refine Ext.drewN ?_ _ | refine Ext.setCell ?_ (by first | exact Nat.le_refl _ | (simp; done) | omega) _ | refine Ext.trans ?_ (by assumption))))).mono ?_; rintro e w2 ⟨rfl, hx2⟩
          rw [decide_eq_true H1.out]
          go_wp2
          go_ret
          exact ⟨by rw [HR.out]; rfl, (by repeat (first | exact Ext.refl _ | assumption | refine Ext.alloc ?_ _ | refine Ext.drew ?_ | refine Ext.drewN ?_ _ | refine Ext.setCell ?_ (by first | exact Nat.le_refl _ | (simp; done) | omega) _ | refine Ext.trans ?_ (by assumption)))⟩
        · by_cases c4 : 65536 < hy
          · have HR : Hid (halfA W H zs hx hy = 0) := by show _ = _; unfold halfA; rw [if_neg (fun e => by have a1 := hfarB_no e.2.1; have a2 := hfarB_no e.2.2; omega)]
            clear h1
            go_enter Tryd.func40, Tryd.ntmps40
            go_wp2_with fail
            refine (M1.out _ (h.ext (by repeat (first | exact Ext.refl _ | assumption | refine Ext.alloc ?_ _ | refine Ext.drew ?_ | refine Ext.drewN ?_ _ | refine Ext.setCell ?_ (by first | exact Nat.le_refl _ | (simp; done) | omega) _ | refine Ext.trans ?_ (by assumption))))).mono ?_; rintro e w2 ⟨rfl, hx2⟩
            rw [decide_eq_true H1.out]
            go_wp2
            go_ret
            exact ⟨by rw [HR.out]; rfl, (by repeat (first | exact Ext.refl _ | assumption | refine Ext.alloc ?_ _ | refine Ext.drew ?_ | refine Ext.drewN ?_ _ | refine Ext.setCell ?_ (by first | exact Nat.le_refl _ | (simp; done) | omega) _ | refine Ext.trans ?_ (by assumption)))⟩
          · have HR : Hid (halfA W H zs hx hy = halfV W H zs hx hy) := by show _ = _; unfold halfA; rw [if_pos ⟨h1, by unfold hfarB; simp; omega, by unfold hfarB; simp; omega⟩]
            have U := Lib.hid (fun w h => rhalf_any W H hx hy zs a n cap w h h1 (by omega) (by omega))
            clear h1
            have F0 := FrBox.new w W H (.slice a n cap)
            go_enter Tryd.func40, Tryd.ntmps40
            go_wp2_with fail
            refine (M1.out _ (h.ext (by repeat (first | exact Ext.refl _ | assumption | refine Ext.alloc ?_ _ | refine Ext.drew ?_ | refine Ext.drewN ?_ _ | refine Ext.setCell ?_ (by first | exact Nat.le_refl _ | (simp; done) | omega) _ | refine Ext.trans ?_ (by assumption))))).mono ?_; rintro e w2 ⟨rfl, hx2⟩
            rw [decide_eq_true H1.out]
            obtain ⟨p0, p1, p2⟩ := F0.ext hx2
            have E2 : Ext w w2 := (by repeat (first | exact Ext.refl _ | assumption | refine Ext.alloc ?_ _ | refine Ext.drew ?_ | refine Ext.drewN ?_ _ | refine Ext.setCell ?_ (by first | exact Nat.le_refl _ | (simp; done) | omega) _ | refine Ext.trans ?_ (by assumption)))
            clear hx2 F0
            go_wp2_with fail
            refine (U.out _ (h.ext E2)).mono ?_; rintro e w4 ⟨rfl, hx4⟩
            go_wp2
            go_ret
            exact ⟨by rw [HR.out]; rfl, E2.trans hx4⟩
  · have HR : Hid (halfA W H zs hx hy = 0) := by show _ = _; unfold halfA; rw [if_neg (fun e => h1 e.1)]
    have H1 := Lib.hid h1
    clear h1
    go_enter Tryd.func40, Tryd.ntmps40
    go_wp2_with fail
    refine (M1.out _ (h.ext (by repeat (first | exact Ext.refl _ | assumption | refine Ext.alloc ?_ _ | refine Ext.drew ?_ | refine Ext.drewN ?_ _ | refine Ext.setCell ?_ (by first | exact Nat.le_refl _ | (simp; done) | omega) _ | refine Ext.trans ?_ (by assumption))))).mono ?_; rintro e w2 ⟨rfl, hx2⟩
    rw [decide_eq_false H1.out]
    go_wp2
    go_ret
    exact ⟨by rw [HR.out]; rfl, (by repeat (first | exact Ext.refl _ | assumption | refine Ext.alloc ?_ _ | refine Ext.drew ?_ | refine Ext.drewN ?_ _ | refine Ext.setCell ?_ (by first | exact Nat.le_refl _ | (simp; done) | omega) _ | refine Ext.trans ?_ (by assumption)))⟩
end Go.Proofs.YtaamnpbhmckpbaaDoor

/- kinlaw11.first: its contract over this seat's translation. -/
namespace Go.Proofs.YtaamnpbhmckpbaaDoor
set_option linter.unusedVariables false
set_option linter.unusedSimpArgs false
open Go.RowKit Go.Extern.Stop Go.Stop Go.Extern

def PM : List Int := rowL 64 fun k => ((k % 8 : Nat) : Int)
theorem pm_may : may 8 8 PM := by decide +kernel
theorem pm_zero : scF 8 8 PM PM 0 0 0 0 64 = 0 := by decide +kernel
theorem pm_any : PM.any nosmpB = false := by decide +kernel
theorem pm_half : halfA 8 8 PM 3 0 = 2 ∧ halfA 8 8 PM (-1) 0 = 0 ∧ halfA 8 8 PM 15 1 = 7 := by decide +kernel
theorem scF_pos (W H : Int) (zs bs : List Int) (x y vx vy : Int) (k : Nat) : 0 ≤ scF W H zs bs x y vx vy k := by
  have := sadF_pos (mvF W H zs x y vx vy 8) (fun i => bs.getD i 0) k
  unfold scF lenV
  omega
theorem sr2_stop {C : Int → Int → Int} (hC : ∀ x y, 0 ≤ C x y) (h0 : C 0 0 = 0) (R : Nat) : sr2 C R = (0, 0, 0) := by
  have h1 : sr1 C R = (0, 0, 0) := by
    unfold sr1
    rw [h0]
    exact arS_stop hC (st := (0, 0, 0)) (k := 0) rfl (Nat.zero_le _)
  unfold sr2
  rw [h1]
  exact arS_stop hC (st := (0, 0, 0)) (k := 0) rfl (Nat.zero_le _)
theorem pm_search : srE 8 8 PM PM 0 0 3 = none ∧ srX 8 8 PM PM 0 0 3 = 0 ∧ srY 8 8 PM PM 0 0 3 = 0 := by
  have h : srE 8 8 PM PM 0 0 3 = none := by
    unfold srE
    rw [if_pos pm_may, if_pos (by decide), if_pos (by unfold PM; rw [rowL_length]), if_neg (by rw [pm_any]; decide)]
  have e := sr2_stop (C := fun vx vy => scF 8 8 PM PM 0 0 vx vy 64) (fun vx vy => scF_pos _ _ _ _ _ _ _ _ _) pm_zero (3 : Int).toNat
  refine ⟨h, ?_, ?_⟩
  · unfold srX; rw [h]; show (sr2 _ _).1 = 0; rw [e]
  · unfold srY; rw [h]; show (sr2 _ _).2.1 = 0; rw [e]
theorem pm_none : srE 8 8 PM [] 0 0 3 = fit ∧ srX 8 8 PM [] 0 0 3 = 0 ∧ srY 8 8 PM [] 0 0 3 = 0 := by
  have h : srE 8 8 PM [] 0 0 3 = fit := by
    unfold srE
    rw [if_pos pm_may, if_pos (by decide), if_neg (by decide)]
  refine ⟨h, ?_, ?_⟩
  · unfold srX; rw [h]; rfl
  · unfold srY; rw [h]; rfl
theorem pm_block : (movL 8 8 PM 0 0 8 0 0).length = 64 := by
  unfold movL
  rw [if_pos ⟨pm_may, .inr rfl, by decide, by decide, by decide⟩, rowL_length]
  rfl
/-- a frame under way in a variable of the call's own -/
def FrW (w : World) (B : Nat) (v : Value) : Prop := FrBox w B 8 8 v ∧ w.frozen? ⟨B, 2, none⟩ = false
theorem FrW.below {w w' : World} {B K : Nat} {v : Value} (h : FrW w B v) (k : Below K w w') (hb : B < K) : FrW w' B v :=
  ⟨⟨Below.cellv k h.1.1 hb, Below.cellv k h.1.2.1 hb, Below.cellv k h.1.2.2 hb⟩, (Below.frozen (p := ⟨B, 2, none⟩) k hb).trans h.2⟩
theorem FrW.set {w : World} {B : Nat} {v : Value} (h : FrW w B v) (v' : Value) : FrW (w.setCell ⟨B, 2, none⟩ v') B v' := by
  obtain ⟨⟨h0, h1, h2⟩, f⟩ := h
  exact ⟨⟨(World.cell?_setCell_other w _ _ v' (fun e => by cases e)).trans h0, (World.cell?_setCell_other w _ _ v' (fun e => by cases e)).trans h1, World.cell?_setCell_same _ _ v' h2⟩, by simpa using f⟩
theorem FrW.new (w : World) : FrW (w.alloc (.cells #[.int .i64 8, .int .i64 8, .slice none 0 0] 67)) w.heap.size (.slice none 0 0) := ⟨⟨by simp, by simp, by simp⟩, by simp⟩
set_option maxHeartbeats 8000000 in
set_option maxRecDepth 20000 in
theorem first11_any (w : World) (hg : EtIs w) : Calls Tryd.prog 37 #[] w fun e w' => e = .returned (.bool true) ∧ Ext w w' := by
  have E0 : Ext w (w.alloc (.cells #[.int .i64 8, .int .i64 8, .slice none 0 0] 67)) := (Ext.refl w).alloc _
  have F0 := FrW.new w
  have S0 : w.heap.size + 1 ≤ (w.alloc (.cells #[.int .i64 8, .int .i64 8, .slice none 0 0] 67)).heap.size := by simp
  have HS1 := Lib.hid (fun a cap w h => by have := search_any 8 8 0 0 3 PM PM (some a) (some a) 64 cap 64 cap w h h; rwa [pm_search.1, pm_search.2.1, pm_search.2.2] at this)
  have HS2 := Lib.hid (fun a cap w h => by have := search_any 8 8 0 0 3 PM [] (some a) none 64 cap 0 0 w h (Ints.nil _); rwa [pm_none.1, pm_none.2.1, pm_none.2.2] at this)
  have HH1 := Lib.hid (fun a cap w h => by have := Half_any 8 8 3 0 PM (some a) 64 cap w h; rwa [pm_half.1] at this)
  have HH2 := Lib.hid (fun a cap w h => by have := Half_any 8 8 (-1) 0 PM (some a) 64 cap w h; rwa [pm_half.2.1] at this)
  have HH3 := Lib.hid (fun a cap w h => by have := Half_any 8 8 15 1 PM (some a) 64 cap w h; rwa [pm_half.2.2] at this)
  have HBL := Lib.hid (fun a cap w h => mblock_any 8 8 0 0 8 0 0 PM (some a) 64 cap w h)
  go_enter Tryd.func37, Tryd.ntmps37
  go_wp2_with fail
  revert E0 F0 S0
  generalize w.alloc (.cells #[.int .i64 8, .int .i64 8, .slice none 0 0] 67) = w0
  intro E0 F0 S0
  go_loopw [2] (fun iv wr => ∃ (i : Nat) (v : Value), i ≤ 64 ∧ iv = .int .i64 i ∧ Hid (FrW wr w.heap.size v) ∧ Hid (wr.ownsRow (w.heap.size + 1) 3 1 v i ((rowL i fun k => ((k % 8 : Nat) : Int)).map (Value.int .i64))) ∧ Hid (Ext w wr) ∧ w.heap.size + 1 ≤ wr.heap.size) (fun iv _ => 64 - (intOf iv).toNat)
  case atStart => exact ⟨0, _, Nat.zero_le _, rfl, F0, World.ownsRow_nil _ _ _ _, E0, S0⟩
  case round =>
    clear E0 F0 S0
    obtain ⟨i, v, hi, rfl, HF, HO, HE, HSZ⟩ := hrel
    obtain ⟨⟨c0, c1, c2⟩, f2⟩ := HF.out
    by_cases hlt : i < 64
    · have m1 : (i : Int) % 8 = ((i % 8 : Nat) : Int) := by omega
      obtain ⟨r, hr⟩ : ∃ r, i % 8 = r := ⟨_, rfl⟩
      rw [hr] at m1
      have HR := Lib.hid hr
      clear hr
      go_wp2_with (at_builtin; refine push_int rfl _ _ 65 rfl Tryd.underlying65 _ i _ _ rfl HO.out (by show Value.slice (some ⟨wr.heap.size, 0, none⟩) 1 1 = _; simp) HSZ (by omega) ?_; intro v' w7 h1 h2; obtain ⟨gq, cq, rfl⟩ := own_addr2 h1 (Nat.succ_pos _); have HF7 := Lib.hid (HF.out.below h2 (Nat.lt_succ_self _)); have HO7 := Lib.hid h1; have HE7 := Lib.hid (HE.out.of_below h2 (Nat.le_succ _)); have HS7 : w.heap.size + 1 ≤ w7.heap.size := Nat.le_trans HSZ h2.size; obtain ⟨⟨d0, d1, d2⟩, g2⟩ := HF7.out; clear h1 h2)
      go_roundw
      case rel => exact ⟨i + 1, _, by omega, by go_num, HF7.out.set _, own_setCell_lt (by rw [rowL_sn, HR.out]; exact HO7.out) _ (Nat.lt_succ_self _), HE7.out.setCell (p := ⟨w.heap.size, 2, none⟩) (Nat.le_refl _) _, by simpa using HS7⟩
      case measure => simp [intOf]; omega
    · obtain rfl : i = 64 := by omega
      obtain ⟨g, cap, rfl⟩ := own_addr2 HO.out (by omega)
      have HI : Hid (Ints wr (.slice (some ⟨g, 0, none⟩) 64 cap) PM) := Ints.of_row HO.out (by omega)
      have HFB := Lib.hid HF.out.1
      clear HO HF hlt
      go_wp2_with fail
      refine (HS1.out _ _ _ HI.out).mono ?_; rintro e w1 ⟨x1, rfl, hx1, he1⟩
      obtain rfl : x1 = .nilIface := he1
      have A1 : Ext w1 (w1.alloc (.cells #[.int .i64 0, .int .i64 0] 69)) := (Ext.refl w1).alloc _
      have V1 := VOwn.new w1 0 0
      have X2 := hx1.trans A1
      clear c0 c1 c2 A1
      obtain ⟨c0, c1, c2⟩ := HFB.out.ext X2
      go_wp2_with fail
      revert X2 V1 c0 c1 c2
      generalize w1.alloc (.cells #[.int .i64 0, .int .i64 0] 69) = w2
      intro V1 X2 c0 c1 c2
      have HV := Lib.hid V1.1
      clear V1
      refine (HS2.out _ _ _ (HI.out.ext X2)).mono ?_; rintro e w3 ⟨x3, rfl, hx3, he3⟩
      have A3 : Ext w3 (w3.alloc (.cells #[.int .i64 0, .int .i64 0] 69)) := (Ext.refl w3).alloc _
      have X4 := hx3.trans A3
      have HX3 := Lib.hid (he3.ext A3)
      clear c0 c1 c2 A3 he3
      obtain ⟨c0, c1, c2⟩ := HFB.out.ext (X2.trans X4)
      go_wp2_with fail
      revert X4 c0 c1 c2 HX3
      generalize w3.alloc (.cells #[.int .i64 0, .int .i64 0] 69) = w4
      intro X4 HX3 c0 c1 c2
      refine (HH1.out _ _ _ (HI.out.ext (X2.trans X4))).mono ?_; rintro e w5 ⟨rfl, hx5⟩
      have X5 := X4.trans hx5
      clear c0 c1 c2
      obtain ⟨c0, c1, c2⟩ := HFB.out.ext (X2.trans X5)
      go_wp2_with fail
      refine (HH2.out _ _ _ (HI.out.ext (X2.trans X5))).mono ?_; rintro e w6 ⟨rfl, hx6⟩
      have X6 := X5.trans hx6
      clear c0 c1 c2
      obtain ⟨c0, c1, c2⟩ := HFB.out.ext (X2.trans X6)
      go_wp2_with fail
      refine (HH3.out _ _ _ (HI.out.ext (X2.trans X6))).mono ?_; rintro e w7 ⟨rfl, hx7⟩
      have X7 := X6.trans hx7
      clear c0 c1 c2
      obtain ⟨v0, v1⟩ := HV.out.ext X7
      go_wp2_with fail
      refine (fail_any 14 _).mono ?_; rintro e w8 ⟨rfl, hx8⟩
      have X8 := X7.trans hx8
      go_wp2_with fail
      refine (same_fall fit _ _ _ _ (hg.ext ((HE.out.trans X2).trans X8)) (HX3.out.ext ((hx5.trans hx6).trans (hx7.trans hx8))) (RErrIs.code (by decide))).mono ?_; rintro e w9 ⟨rfl, hx9⟩
      have X9 := X8.trans hx9
      obtain ⟨c0, c1, c2⟩ := HFB.out.ext (X2.trans X9)
      obtain ⟨v2, v3⟩ := HV.out.ext X9
      go_wp2_with fail
      refine (HBL.out _ _ _ (HI.out.ext (X2.trans X9))).mono ?_; rintro e wA ⟨u, rfl, hxA, hiA⟩
      obtain ⟨ua, ucap, rfl⟩ := hiA.form
      rw [pm_block]
      go_wp2
      go_ret
      exact ⟨rfl, ((HE.out.trans X2).trans X9).trans hxA⟩
end Go.Proofs.YtaamnpbhmckpbaaDoor

/- kinlaw11.MotionCosts, MotionSearches, MotionHalves: the walks. -/
namespace Go.Proofs.YtaamnpbhmckpbaaDoor
set_option linter.unusedVariables false
set_option linter.unusedSimpArgs false
open Go.RowKit Go.Extern.Stop Go.Stop Go.Extern

set_option maxHeartbeats 4000000 in
set_option maxRecDepth 20000 in
theorem costs_law (xs ys : List Int) (X Y : Int) (va vb : Value) (w : World) (hg : EtIs w) (ra : Row w va xs.length (xs.map (Value.int .i64))) (rb : Row w vb ys.length (ys.map (Value.int .i64))) :
    Calls Tryd.prog 10 #[va, vb, .agg #[.int .i64 X, .int .i64 Y]] w fun e w' => e = .returned (.bool true) ∧ Ext w w' := by
  obtain ⟨a, ca, rfl⟩ := ra.form
  obtain ⟨b, cb, rfl⟩ := rb.form
  obtain ⟨n, hn⟩ : ∃ n, n = xs.length := ⟨_, rfl⟩
  obtain ⟨m, hm⟩ : ∃ m, m = ys.length := ⟨_, rfl⟩
  by_cases h1 : n ≤ 5000
  · by_cases h2 : m ≤ 5000
    · have IA : Ints w (.slice a xs.length ca) xs := ⟨ra, by omega⟩
      have IB : Ints w (.slice b ys.length cb) ys := ⟨rb, by omega⟩
      have U := Lib.hid (fun w h k => cost_any xs ys X Y (.slice a xs.length ca) (.slice b ys.length cb) w h k (by omega))
      have UR := Lib.hid (fun w h k => rcost_any xs ys X Y (.slice a xs.length ca) (.slice b ys.length cb) w h k (by omega))
      rw [← hn] at IA U UR ⊢
      rw [← hm] at IB U UR ⊢
      have HA := Lib.hid IA
      have HB := Lib.hid IB
      have t1 : ¬ (5000 : Int) < (n : Int) := by omega
      have t2 : ¬ (5000 : Int) < (m : Int) := by omega
      clear IA IB ra rb hn hm
      have E0 : Ext w (w.alloc (.cells #[.int .i64 X, .int .i64 Y] 69)) := (Ext.refl w).alloc _
      have G0 : VcBox (w.alloc (.cells #[.int .i64 X, .int .i64 Y] 69)) w.heap.size X Y := ⟨by simp, by simp⟩
      go_enter Tryd.func10, Tryd.ntmps10
      go_wp2_with fail
      revert E0 G0
      generalize w.alloc (.cells #[.int .i64 X, .int .i64 Y] 69) = w0
      intro E0 G0
      refine (first11_any _ (hg.ext E0)).mono ?_; rintro e w1 ⟨rfl, hx1⟩
      have E1 := E0.trans hx1
      have G1 := Lib.hid (G0.ext hx1)
      obtain ⟨p0, p1⟩ := G1.out
      clear G0 E0 hx1
      go_wp2_with fail
      refine (U.out _ (HA.out.ext E1) (HB.out.ext E1)).mono ?_; rintro e w3 ⟨x3, rfl, hx3, he3⟩
      have E3 := E1.trans hx3
      have HE := Lib.hid he3
      clear p0 p1 he3
      obtain ⟨p0, p1⟩ := G1.out.ext hx3
      go_wp2_with fail
      refine (UR.out _ (HA.out.ext E3) (HB.out.ext E3)).mono ?_; rintro e w4 ⟨c, d, i, j, rfl, hx4, he4⟩
      have A4 : Ext w4 (w4.alloc (.cells #[.int .i64 c, .slice d i j] 39)) := (Ext.refl w4).alloc _
      have E4 := (E3.trans hx4).trans A4
      have HR := Lib.hid he4
      clear he4
      go_wp2_with fail
      refine (first11_any _ (hg.ext E4)).mono ?_; rintro e w5 ⟨rfl, hx5⟩
      obtain ⟨s0, s1⟩ := evar w4 c d i j hx5
      go_wp2_with fail
      refine (same_fall _ _ _ _ _ (hg.ext (E4.trans hx5)) (HE.out.ext (hx4.trans (A4.trans hx5))) (HR.out.ext (A4.trans hx5))).mono ?_; rintro e w6 ⟨rfl, hx6⟩
      go_wp2
      go_ret
      exact ⟨rfl, (E4.trans hx5).trans hx6⟩
    · rw [← hn, ← hm]
      clear ra rb hn hm
      have t1 : ¬ (5000 : Int) < (n : Int) := by omega
      have t2 : (5000 : Int) < (m : Int) := by omega
      have E0 : Ext w (w.alloc (.cells #[.int .i64 X, .int .i64 Y] 69)) := (Ext.refl w).alloc _
      have G0 : VcBox (w.alloc (.cells #[.int .i64 X, .int .i64 Y] 69)) w.heap.size X Y := ⟨by simp, by simp⟩
      go_enter Tryd.func10, Tryd.ntmps10
      go_wp2_with fail
      revert E0 G0
      generalize w.alloc (.cells #[.int .i64 X, .int .i64 Y] 69) = w0
      intro E0 G0
      refine (first11_any _ (hg.ext E0)).mono ?_; rintro e w1 ⟨rfl, hx1⟩
      have E1 := E0.trans hx1
      have G1 := Lib.hid (G0.ext hx1)
      obtain ⟨p0, p1⟩ := G1.out
      clear G0 E0 hx1
      go_wp2_with fail
      refine (first11_any _ (hg.ext E1)).mono ?_; rintro e w2 ⟨rfl, hx2⟩
      go_wp2
      go_ret
      exact ⟨rfl, E1.trans hx2⟩
  · rw [← hn, ← hm]
    clear ra rb hn hm
    have t1 : (5000 : Int) < (n : Int) := by omega
    have E0 : Ext w (w.alloc (.cells #[.int .i64 X, .int .i64 Y] 69)) := (Ext.refl w).alloc _
    have G0 : VcBox (w.alloc (.cells #[.int .i64 X, .int .i64 Y] 69)) w.heap.size X Y := ⟨by simp, by simp⟩
    go_enter Tryd.func10, Tryd.ntmps10
    go_wp2_with fail
    revert E0 G0
    generalize w.alloc (.cells #[.int .i64 X, .int .i64 Y] 69) = w0
    intro E0 G0
    refine (first11_any _ (hg.ext E0)).mono ?_; rintro e w1 ⟨rfl, hx1⟩
    have E1 := E0.trans hx1
    have G1 := Lib.hid (G0.ext hx1)
    obtain ⟨p0, p1⟩ := G1.out
    clear G0 E0 hx1
    go_wp2_with fail
    refine (first11_any _ (hg.ext E1)).mono ?_; rintro e w2 ⟨rfl, hx2⟩
    go_wp2
    go_ret
    exact ⟨rfl, E1.trans hx2⟩
theorem rsearch_any (W H x y reach : Int) (zs bs : List Int) (a a2 : Option Addr) (n cap n2 cap2 : Nat) (w : World) (h : Ints w (.slice a n cap) zs) (hb : Ints w (.slice a2 n2 cap2) bs) :
    Calls Tryd.prog 49 #[.agg #[.int .i64 W, .int .i64 H, .slice a n cap], .slice a2 n2 cap2, .int .i64 x, .int .i64 y, .int .i64 reach] w (RVPost w (srX W H zs bs x y reach) (srY W H zs bs x y reach) (srE W H zs bs x y reach)) := by
  by_cases ho : may W H zs ∧ rngOk W H x y reach
  · obtain ⟨hm, hr⟩ := ho
    by_cases hl : bs.length = 64
    · cases ha : bs.any nosmpB with
      | true => exact rsearch_smp W H x y reach zs bs a a2 n cap n2 cap2 w h hb hm hr hl ha
      | false =>
        obtain ⟨R, rfl⟩ : ∃ R : Nat, reach = (R : Int) := ⟨reach.toNat, by unfold rngOk at hr; omega⟩
        exact rsearch_yes W H x y R zs bs a a2 n cap n2 cap2 w h hb hm hr hl ha
    · exact rsearch_fit W H x y reach zs bs a a2 n cap n2 cap2 w h hb hm hr hl
  · exact rsearch_no W H x y reach zs bs a a2 n cap n2 cap2 w h hb ho
set_option maxHeartbeats 4000000 in
set_option maxRecDepth 20000 in
theorem searches_law (W H x y reach : Int) (xs ys : List Int) (va vb : Value) (w : World) (hg : EtIs w) (ra : Row w va xs.length (xs.map (Value.int .i64))) (rb : Row w vb ys.length (ys.map (Value.int .i64))) :
    Calls Tryd.prog 11 #[.agg #[.int .i64 W, .int .i64 H, va], vb, .int .i64 x, .int .i64 y, .int .i64 reach] w fun e w' => e = .returned (.bool true) ∧ Ext w w' := by
  obtain ⟨a, ca, rfl⟩ := ra.form
  obtain ⟨b, cb, rfl⟩ := rb.form
  obtain ⟨n, hn⟩ : ∃ n, n = xs.length := ⟨_, rfl⟩
  obtain ⟨m, hm⟩ : ∃ m, m = ys.length := ⟨_, rfl⟩
  by_cases h1 : n ≤ 5000
  · by_cases h2 : m ≤ 5000
    · have IA : Ints w (.slice a xs.length ca) xs := ⟨ra, by omega⟩
      have IB : Ints w (.slice b ys.length cb) ys := ⟨rb, by omega⟩
      have UC := Lib.hid (fun w h => copy_frame W H xs a n ca w h (by omega))
      have UI := Lib.hid (fun w h => copy_ints ys (.slice b m cb) w h (by omega))
      have U := Lib.hid (fun c cc d cd w h k => search_any W H x y reach xs ys c d n cc m cd w h k)
      have UR := Lib.hid (fun w h k => rsearch_any W H x y reach xs ys a b n ca m cb w h k)
      have UF := Lib.hid (fun c cc w h k => frame_same W H xs c a n n cc ca w h k)
      have US := Lib.hid (fun c cc w h k => by have := ints_same ys ys (.slice c m cc) (.slice b m cb) w h k; rwa [decide_eq_true rfl] at this)
      have HN := Lib.hid hn
      have HM := Lib.hid hm
      rw [← hn] at IA ⊢
      rw [← hm] at IB ⊢
      have HA := Lib.hid IA
      have HB := Lib.hid IB
      have t1 : ¬ (5000 : Int) < (n : Int) := by omega
      have t2 : ¬ (5000 : Int) < (m : Int) := by omega
      clear IA IB ra rb hn hm
      have E0 : Ext w (w.alloc (.cells #[.int .i64 W, .int .i64 H, .slice a n ca] 67)) := (Ext.refl w).alloc _
      have F0 := FrBox.new w W H (.slice a n ca)
      go_enter Tryd.func11, Tryd.ntmps11
      go_wp2_with fail
      revert E0 F0
      generalize w.alloc (.cells #[.int .i64 W, .int .i64 H, .slice a n ca] 67) = w0
      intro E0 F0
      refine (first11_any _ (hg.ext E0)).mono ?_; rintro e w1 ⟨rfl, hx1⟩
      have E1 := E0.trans hx1
      have F1 := Lib.hid (F0.ext hx1)
      obtain ⟨p0, p1, p2⟩ := F1.out
      clear F0 E0 hx1
      go_wp2_with fail
      refine (UC.out _ (HA.out.ext E1)).mono ?_; rintro e w3 ⟨u3, rfl, hi3, hx3⟩
      obtain ⟨c, cc, rfl⟩ := hi3.form
      rw [← HN.out] at hi3 ⊢
      have HC := Lib.hid hi3
      have E3 := E1.trans hx3
      clear hi3
      go_wp2_with fail
      refine (UI.out _ (HB.out.ext E3)).mono ?_; rintro e w4 ⟨u4, rfl, hi4, hx4⟩
      obtain ⟨d, cd, rfl⟩ := hi4.form
      rw [← HM.out] at hi4 ⊢
      have E4 := E3.trans hx4
      have A4 : Ext w4 (w4.alloc (.cells #[.int .i64 W, .int .i64 H, .slice c n cc] 67)) := (Ext.refl w4).alloc _
      have FC := Lib.hid ((FrBox.new w4 W H (.slice c n cc)))
      have HD := Lib.hid (hi4.ext A4)
      have HC4 := Lib.hid ((HC.out.ext hx4).ext A4)
      have E5 := E4.trans A4
      have F5 := Lib.hid (F1.out.ext ((hx3.trans hx4).trans A4))
      clear hi4 hx3 hx4 A4 HC p0 p1 p2 E3 E4
      go_wp2_with fail
      revert FC HD HC4 E5 F5
      generalize w4.alloc (.cells #[.int .i64 W, .int .i64 H, .slice c n cc] 67) = w5
      intro FC HD HC4 E5 F5
      refine (U.out _ _ _ _ _ HC4.out HD.out).mono ?_; rintro e w6 ⟨x6, rfl, hx6, he6⟩
      obtain ⟨X, hX⟩ : ∃ X, srX W H xs ys x y reach = X := ⟨_, rfl⟩
      obtain ⟨Y, hY⟩ : ∃ Y, srY W H xs ys x y reach = Y := ⟨_, rfl⟩
      rw [hX, hY] at UR ⊢
      clear hX hY
      have A6 : Ext w6 (w6.alloc (.cells #[.int .i64 X, .int .i64 Y] 69)) := (Ext.refl w6).alloc _
      have V6 : VcBox (w6.alloc (.cells #[.int .i64 X, .int .i64 Y] 69)) w6.heap.size X Y := ⟨by simp, by simp⟩
      have HE := Lib.hid (he6.ext A6)
      have X7 := hx6.trans A6
      clear he6
      obtain ⟨p0, p1, p2⟩ := F5.out.ext X7
      go_wp2_with fail
      revert V6 HE X7 p0 p1 p2
      clear A6
      generalize w6.alloc (.cells #[.int .i64 X, .int .i64 Y] 69) = w7
      intro V6 HE X7 p0 p1 p2
      have HV := Lib.hid V6
      clear V6
      refine (UR.out _ (HA.out.ext (E5.trans X7)) (HB.out.ext (E5.trans X7))).mono ?_; rintro e w8 ⟨c8, a8, m8, k8, rfl, hx8, he8⟩
      have A8 : Ext w8 ((w8.alloc (.cells #[.int .i64 X, .int .i64 Y] 69)).alloc (.cells #[.int .i64 c8, .slice a8 m8 k8] 39)) := (by repeat (first | exact Ext.refl _ | assumption | refine Ext.alloc ?_ _ | refine Ext.drew ?_ | refine Ext.drewN ?_ _ | refine Ext.setCell ?_ (by first | exact Nat.le_refl _ | (simp; done) | omega) _ | refine Ext.trans ?_ (by assumption)))
      have V8 : VcBox ((w8.alloc (.cells #[.int .i64 X, .int .i64 Y] 69)).alloc (.cells #[.int .i64 c8, .slice a8 m8 k8] 39)) w8.heap.size X Y := VcBox.ext (w := w8.alloc (.cells #[.int .i64 X, .int .i64 Y] 69)) ⟨by simp, by simp⟩ ((Ext.refl _).alloc _)
      have R8 : ((w8.alloc (.cells #[.int .i64 X, .int .i64 Y] 69)).alloc (.cells #[.int .i64 c8, .slice a8 m8 k8] 39)).cell? ⟨w8.heap.size + 1, 0, none⟩ = some (.int .i64 c8) ∧ ((w8.alloc (.cells #[.int .i64 X, .int .i64 Y] 69)).alloc (.cells #[.int .i64 c8, .slice a8 m8 k8] 39)).cell? ⟨w8.heap.size + 1, 1, none⟩ = some (.slice a8 m8 k8) := ⟨by simp, by simp⟩
      have HR8 := Lib.hid (he8.ext A8)
      have X9 := hx8.trans A8
      clear he8
      go_wp2_with fail
      revert V8 R8 HR8 X9
      clear A8 p0 p1 p2
      generalize (w8.alloc (.cells #[.int .i64 X, .int .i64 Y] 69)).alloc (.cells #[.int .i64 c8, .slice a8 m8 k8] 39) = w9
      intro V8 R8 HR8 X9
      have HV8 := Lib.hid V8
      have HC8 := Lib.hid R8
      clear V8 R8
      refine (first11_any _ (hg.ext ((E5.trans X7).trans X9))).mono ?_; rintro e wA ⟨rfl, hxA⟩
      obtain ⟨s0, s1⟩ := HC8.out
      obtain ⟨v0, v1⟩ := HV.out.ext (X9.trans hxA)
      obtain ⟨v2, v3⟩ := HV8.out.ext hxA
      have s2 := hxA.cell s0
      have s3 := hxA.cell s1
      have XA := (E5.trans X7).trans (X9.trans hxA)
      go_wp2_with fail
      refine (same_fall _ _ _ _ _ (hg.ext XA) (HE.out.ext (X9.trans hxA)) (HR8.out.ext hxA)).mono ?_; rintro e wB ⟨rfl, hxB⟩
      have XB := X7.trans (X9.trans (hxA.trans hxB))
      clear v0 v1 v2 v3 s0 s1 s2 s3
      obtain ⟨c0, c1, c2⟩ := FC.out.ext XB
      obtain ⟨p0, p1, p2⟩ := F5.out.ext XB
      go_wp2_with fail
      refine (UF.out _ _ _ (HC4.out.ext XB) (HA.out.ext (E5.trans XB))).mono ?_; rintro e wC ⟨rfl, hxC⟩
      go_wp2_with fail
      refine (US.out _ _ _ (HD.out.ext (XB.trans hxC)) (HB.out.ext ((E5.trans XB).trans hxC))).mono ?_; rintro e wD ⟨rfl, hxD⟩
      go_wp2
      go_ret
      exact ⟨rfl, ((E5.trans XB).trans hxC).trans hxD⟩
    · rw [← hn, ← hm]
      clear ra rb hn hm
      have t1 : ¬ (5000 : Int) < (n : Int) := by omega
      have t2 : (5000 : Int) < (m : Int) := by omega
      have E0 : Ext w (w.alloc (.cells #[.int .i64 W, .int .i64 H, .slice a n ca] 67)) := (Ext.refl w).alloc _
      have F0 := FrBox.new w W H (.slice a n ca)
      go_enter Tryd.func11, Tryd.ntmps11
      go_wp2_with fail
      revert E0 F0
      generalize w.alloc (.cells #[.int .i64 W, .int .i64 H, .slice a n ca] 67) = w0
      intro E0 F0
      refine (first11_any _ (hg.ext E0)).mono ?_; rintro e w1 ⟨rfl, hx1⟩
      have E1 := E0.trans hx1
      have F1 := Lib.hid (F0.ext hx1)
      obtain ⟨p0, p1, p2⟩ := F1.out
      clear F0 E0 hx1
      go_wp2_with fail
      refine (first11_any _ (hg.ext E1)).mono ?_; rintro e w2 ⟨rfl, hx2⟩
      go_wp2
      go_ret
      exact ⟨rfl, E1.trans hx2⟩
  · rw [← hn, ← hm]
    clear ra rb hn hm
    have t1 : (5000 : Int) < (n : Int) := by omega
    have E0 : Ext w (w.alloc (.cells #[.int .i64 W, .int .i64 H, .slice a n ca] 67)) := (Ext.refl w).alloc _
    have F0 := FrBox.new w W H (.slice a n ca)
    go_enter Tryd.func11, Tryd.ntmps11
    go_wp2_with fail
    revert E0 F0
    generalize w.alloc (.cells #[.int .i64 W, .int .i64 H, .slice a n ca] 67) = w0
    intro E0 F0
    refine (first11_any _ (hg.ext E0)).mono ?_; rintro e w1 ⟨rfl, hx1⟩
    have E1 := E0.trans hx1
    have F1 := Lib.hid (F0.ext hx1)
    obtain ⟨p0, p1, p2⟩ := F1.out
    clear F0 E0 hx1
    go_wp2_with fail
    refine (first11_any _ (hg.ext E1)).mono ?_; rintro e w2 ⟨rfl, hx2⟩
    go_wp2
    go_ret
    exact ⟨rfl, E1.trans hx2⟩
set_option maxHeartbeats 4000000 in
set_option maxRecDepth 20000 in
theorem halves_law (W H hx hy x y i X Y : Int) (xs : List Int) (va : Value) (w : World) (hg : EtIs w) (ra : Row w va xs.length (xs.map (Value.int .i64))) :
    Calls Tryd.prog 9 #[.agg #[.int .i64 W, .int .i64 H, va], .int .i64 hx, .int .i64 hy, .int .i64 x, .int .i64 y, .int .i64 i, .agg #[.int .i64 X, .int .i64 Y]] w fun e w' => e = .returned (.bool true) ∧ Ext w w' := by
  obtain ⟨a, ca, rfl⟩ := ra.form
  obtain ⟨n, hn⟩ : ∃ n, n = xs.length := ⟨_, rfl⟩
  by_cases h1 : n ≤ 5000
  · have IA : Ints w (.slice a xs.length ca) xs := ⟨ra, by omega⟩
    have UC := Lib.hid (fun w h => copy_frame W H xs a n ca w h (by omega))
    have UH := Lib.hid (fun c cc w h => Half_any W H hx hy xs c n cc w h)
    have UR := Lib.hid (fun w h => rHalf_any W H hx hy xs a n ca w h)
    have UB := Lib.hid (fun c cc w h => mblock_any W H x y i X Y xs c n cc w h)
    have UQ := Lib.hid (fun w h => rblock_any W H x y i X Y xs a n ca w h)
    have UF := Lib.hid (fun c cc w h k => frame_same W H xs c a n n cc ca w h k)
    have US := Lib.hid (fun u v w h k => by have := ints_same (movL W H xs x y i X Y) (movL W H xs x y i X Y) u v w h k; rwa [decide_eq_true rfl] at this)
    have HN := Lib.hid hn
    rw [← hn] at IA ⊢
    have HA := Lib.hid IA
    have t1 : ¬ (5000 : Int) < (n : Int) := by omega
    clear IA ra hn
    have E0 : Ext w ((w.alloc (.cells #[.int .i64 W, .int .i64 H, .slice a n ca] 67)).alloc (.cells #[.int .i64 X, .int .i64 Y] 69)) := (by repeat (first | exact Ext.refl _ | assumption | refine Ext.alloc ?_ _ | refine Ext.drew ?_ | refine Ext.drewN ?_ _ | refine Ext.setCell ?_ (by first | exact Nat.le_refl _ | (simp; done) | omega) _ | refine Ext.trans ?_ (by assumption)))
    obtain ⟨F0, G0⟩ := FrBox.vec w W H X Y (.slice a n ca)
    go_enter Tryd.func9, Tryd.ntmps9
    go_wp2_with fail
    revert E0 F0 G0
    generalize (w.alloc (.cells #[.int .i64 W, .int .i64 H, .slice a n ca] 67)).alloc (.cells #[.int .i64 X, .int .i64 Y] 69) = w0
    intro E0 F0 G0
    refine (first11_any _ (hg.ext E0)).mono ?_; rintro e w1 ⟨rfl, hx1⟩
    have E1 := E0.trans hx1
    have F1 := Lib.hid (F0.ext hx1)
    have G1 := Lib.hid (G0.ext hx1)
    obtain ⟨p0, p1, p2⟩ := F1.out
    obtain ⟨q0, q1⟩ := G1.out
    clear F0 G0 E0 hx1
    go_wp2_with fail
    refine (UC.out _ (HA.out.ext E1)).mono ?_; rintro e w3 ⟨u3, rfl, hi3, hx3⟩
    obtain ⟨c, cc, rfl⟩ := hi3.form
    rw [← HN.out] at hi3 ⊢
    have A4 : Ext w3 (w3.alloc (.cells #[.int .i64 W, .int .i64 H, .slice c n cc] 67)) := (Ext.refl w3).alloc _
    have FC := Lib.hid (FrBox.new w3 W H (.slice c n cc))
    have HC := Lib.hid (hi3.ext A4)
    have E4 := (E1.trans hx3).trans A4
    have F4 := Lib.hid (F1.out.ext (hx3.trans A4))
    have G4 := Lib.hid (G1.out.ext (hx3.trans A4))
    clear hi3 hx3 A4 p0 p1 p2 q0 q1 F1 G1 E1
    go_wp2_with fail
    revert FC HC E4 F4 G4
    generalize w3.alloc (.cells #[.int .i64 W, .int .i64 H, .slice c n cc] 67) = w4
    intro FC HC E4 F4 G4
    obtain ⟨c0, c1, c2⟩ := FC.out
    obtain ⟨p0, p1, p2⟩ := F4.out
    obtain ⟨q0, q1⟩ := G4.out
    have HD4 : Hid (Ext w4 w4.drew) := (Ext.refl w4).drew
    go_region_held3 (fun w' => w'.cell? ⟨w3.heap.size, 0, none⟩ = some (.int .i64 W) ∧ w'.cell? ⟨w3.heap.size, 1, none⟩ = some (.int .i64 H) ∧ w'.cell? ⟨w3.heap.size, 2, none⟩ = some (.slice c n cc) ∧ w'.cell? ⟨w.heap.size, 0, none⟩ = some (.int .i64 W) ∧ w'.cell? ⟨w.heap.size, 1, none⟩ = some (.int .i64 H) ∧ w'.cell? ⟨w.heap.size, 2, none⟩ = some (.slice a n ca) ∧ w'.cell? ⟨w.heap.size + 1, 0, none⟩ = some (.int .i64 X) ∧ w'.cell? ⟨w.heap.size + 1, 1, none⟩ = some (.int .i64 Y) ∧ Ext w4 w')
      (first | assumption | (exact ⟨c0, c1, c2, p0, p1, p2, q0, q1, Ext.refl _⟩) | (exact ⟨c0, c1, c2, p0, p1, p2, q0, q1, (Ext.refl _).drew⟩) | (exact ⟨HD4.out.cell c0, HD4.out.cell c1, HD4.out.cell c2, HD4.out.cell p0, HD4.out.cell p1, HD4.out.cell p2, HD4.out.cell q0, HD4.out.cell q1, HD4.out⟩) | (go_split_ands; exact ⟨hx.cell (by assumption), hx.cell (by assumption), hx.cell (by assumption), hx.cell (by assumption), hx.cell (by assumption), hx.cell (by assumption), hx.cell (by assumption), hx.cell (by assumption), Ext.trans (by assumption) hx⟩))
      ((first | (go_at_call 37; obtain ⟨_, _, _, _, _, _, _, _, hE1⟩ : _ ∧ _ ∧ _ ∧ _ ∧ _ ∧ _ ∧ _ ∧ _ ∧ Ext w4 _ := (by assumption); refine (first11_any _ (hg.ext (E4.trans hE1))).mono ?_; rintro e w' ⟨rfl, hx⟩; clear hE1) | (go_at_call 39; obtain ⟨_, _, _, _, _, _, _, _, hE1⟩ : _ ∧ _ ∧ _ ∧ _ ∧ _ ∧ _ ∧ _ ∧ _ ∧ Ext w4 _ := (by assumption); refine (UH.out _ _ _ (HC.out.ext hE1)).mono ?_; rintro e w' ⟨rfl, hx⟩; clear hE1) | (go_at_call 40; obtain ⟨_, _, _, _, _, _, _, _, hE1⟩ : _ ∧ _ ∧ _ ∧ _ ∧ _ ∧ _ ∧ _ ∧ _ ∧ Ext w4 _ := (by assumption); refine (UR.out _ (HA.out.ext (E4.trans hE1))).mono ?_; rintro e w' ⟨rfl, hx⟩; clear hE1) | (go_at_call 42; obtain ⟨_, _, _, _, _, _, _, _, hE1⟩ : _ ∧ _ ∧ _ ∧ _ ∧ _ ∧ _ ∧ _ ∧ _ ∧ Ext w4 _ := (by assumption); refine (UB.out _ _ _ (HC.out.ext hE1)).mono ?_; rintro e w' ⟨u1, rfl, hx, hb1⟩; clear hE1; have HB1 := Lib.hid hb1; clear hb1) | (go_at_call 43; obtain ⟨_, _, _, _, _, _, _, _, hE1⟩ : _ ∧ _ ∧ _ ∧ _ ∧ _ ∧ _ ∧ _ ∧ _ ∧ Ext w4 _ := (by assumption); refine (UQ.out _ (HA.out.ext (E4.trans hE1))).mono ?_; rintro e w' ⟨u2, rfl, hx, hb2⟩; clear hE1; have HB2 := Lib.hid hb2; clear hb2) | (go_at_call 41; refine (US.out _ _ _ (HB1.out.ext (by first | exact Ext.refl _ | assumption)) (HB2.out.ext (by first | exact Ext.refl _ | assumption))).mono ?_; rintro e w' ⟨rfl, hx⟩) | (go_at_call 44; obtain ⟨_, _, _, _, _, _, _, _, hE1⟩ : _ ∧ _ ∧ _ ∧ _ ∧ _ ∧ _ ∧ _ ∧ _ ∧ Ext w4 _ := (by assumption); refine (UF.out _ _ _ (HC.out.ext hE1) (HA.out.ext (E4.trans hE1))).mono ?_; rintro e w' ⟨rfl, hx⟩; clear hE1)))
    all_goals obtain ⟨_, _, _, _, _, _, _, _, hE1⟩ : _ ∧ _ ∧ _ ∧ _ ∧ _ ∧ _ ∧ _ ∧ _ ∧ Ext w4 _ := (by assumption)
    all_goals go_wp2
    all_goals go_ret
    all_goals exact ⟨rfl, E4.trans hE1⟩
  · rw [← hn]
    clear ra hn
    have t1 : (5000 : Int) < (n : Int) := by omega
    have E0 : Ext w ((w.alloc (.cells #[.int .i64 W, .int .i64 H, .slice a n ca] 67)).alloc (.cells #[.int .i64 X, .int .i64 Y] 69)) := (by repeat (first | exact Ext.refl _ | assumption | refine Ext.alloc ?_ _ | refine Ext.drew ?_ | refine Ext.drewN ?_ _ | refine Ext.setCell ?_ (by first | exact Nat.le_refl _ | (simp; done) | omega) _ | refine Ext.trans ?_ (by assumption)))
    obtain ⟨F0, G0⟩ := FrBox.vec w W H X Y (.slice a n ca)
    go_enter Tryd.func9, Tryd.ntmps9
    go_wp2_with fail
    revert E0 F0 G0
    generalize (w.alloc (.cells #[.int .i64 W, .int .i64 H, .slice a n ca] 67)).alloc (.cells #[.int .i64 X, .int .i64 Y] 69) = w0
    intro E0 F0 G0
    refine (first11_any _ (hg.ext E0)).mono ?_; rintro e w1 ⟨rfl, hx1⟩
    have E1 := E0.trans hx1
    have F1 := Lib.hid (F0.ext hx1)
    have G1 := Lib.hid (G0.ext hx1)
    obtain ⟨p0, p1, p2⟩ := F1.out
    obtain ⟨q0, q1⟩ := G1.out
    clear F0 G0 E0 hx1
    go_wp2_with fail
    refine (first11_any _ (hg.ext E1)).mono ?_; rintro e w2 ⟨rfl, hx2⟩
    go_wp2
    go_ret
    exact ⟨rfl, E1.trans hx2⟩
end Go.Proofs.YtaamnpbhmckpbaaDoor

/- What closes a law of this seat: from the walk (it returns true, and nothing that was there has changed) to the card. -/
namespace Go.Proofs.YtaamnpbhmckpbaaDoor
set_option linter.unusedVariables false
set_option linter.unusedSimpArgs false
open Go.ChangeShapes Go.WideShapes Go.ChangeAt Go.RowKit

section
variable {H : Type} {enc : TypeId × Value → H} {P : Program}
theorem trodAll_stays (hl : laidOutB P = true) {W W' : World} (hb : Ext W W') {sp : Nat → Bool} :
    ∀ {ts : List TypeId} {vs : List Value} {ds : List (DataW H)} {ps : List MemPlace}, (∀ t ∈ ts, P.readableRec t = true ∧ t < P.types.size) → DataW.TrodAll enc P W 0 (fun _ => true) true ts vs ds ps →
      (∀ x ∈ ps, x.block < W.heap.size) → (∀ x ∈ ps, sp x.block = true) → DataW.TrodAll enc P W' 0 sp true ts vs ds ps
  | [], _, _, _, _, h, _, _ => by
    obtain ⟨rfl, rfl, rfl⟩ := trodAll_nil h
    exact rfl
  | t :: ts, _, _, _, hr, h, hlt, hsp => by
    obtain ⟨v, vs, d, ds, p, q, rfl, rfl, rfl, h1, h2⟩ := trodAll_cons h
    have h0 := hr t (by simp)
    exact ⟨p, q, WideElems.Trod_stays hl h0.1 h0.2 h1 (fun x hx => Below.same hb (hlt x (by simp [hx]))) (fun x hx => hsp x (by simp [hx])),
      trodAll_stays hl hb (fun t ht => hr t (by simp [ht])) h2 (fun x hx => hlt x (by simp [hx])) (fun x hx => hsp x (by simp [hx])), rfl⟩

theorem post_law {f : Func} {s : ChangeSpec} {handsOn again : Bool} {W W' : World} {args : Array Value} {ds gs : List (DataW H)} {before : List MemPlace} {tb : TypeId}
    (hl : laidOutB P = true) (hr0 : (f.params.toList.all fun t => P.readableRec t && decide (t < P.types.size)) = true)
    (hW : DataW.Whole enc P f.params.toList s.vars false W args.toList ds gs before) (hvars : s.vars = []) (hres : f.resultTypes = #[tb]) (htb : P.underlying tb = some .bool)
    (hfn : gs = [] → s.fn H (ds ++ gs) = { results := [.lit (.bool true)], args := ds }) (hb : Ext W W') :
    s.post enc P f false true handsOn again W args (.bool true) W' := by
  have hr : ∀ t ∈ f.params.toList, P.readableRec t = true ∧ t < P.types.size := fun t ht => by simpa using List.all_eq_true.1 hr0 t ht
  have hW' := hW
  obtain ⟨p, q, hA, hV, rfl, hfz, _⟩ := hW
  rw [hvars] at hV
  obtain ⟨rfl, rfl⟩ : gs = [] ∧ q = [] := by
    cases gs with
    | nil => exact ⟨rfl, hV⟩
    | cons g r => exact absurd hV (by intro h; cases h)
  have hlt : ∀ x ∈ p, x.block < W.heap.size := fun x hx => hW'.lt x (by simpa using hx)
  have e1 := hfn rfl
  have hargs : ∀ sp : Nat → Bool, (∀ x ∈ p, sp x.block = true) → DataW.TrodAll enc P W' 0 sp true f.params.toList args.toList ds p := fun sp hs => trodAll_stays hl hb hr hA hlt hs
  have hold : ∀ x ∈ p, (fun b => decide (b < W.heap.size)) x.block = true := fun x hx => by simpa using hlt x hx
  have hres' : ∀ (b : Nat) (sp : Nat → Bool) (hd : Bool), DataW.TrodAll enc P W' b sp hd f.resultTypes.toList ((Value.bool true).resultList f.resultTypes.size) [.lit (.bool true)] [] := fun b sp hd => by
    rw [hres]
    exact trodAll_cons_mk (shut_bool htb _) trodAll_mk0
  refine ⟨ds, [], p ++ [], [], p, [], hW', by rw [e1]; exact hres' _ _ _, by rw [e1]; exact hargs _ hold, by rw [e1, hvars]; exact rfl,
    World.keptBut_mono (fun x hx => ⟨hx, Or.inr (Or.inl (by simpa using hx))⟩) (Below.frame hb (· ∈ p ++ [])), fun _ => ⟨ok_one hres rfl (okWide_bool_mk htb true), _, [], ([] ++ p) ++ [], ⟨[] ++ p, [], trodAll_append (hargs _ (fun _ _ => rfl)) (hres' _ _ _), by rw [hvars]; exact rfl, rfl, ?_, fun h => by cases h⟩, ?_⟩⟩
  · intro b off hp
    have hin : MemPlace.cell b off ∈ p := by simpa using hp
    rw [Below.frozen hb (hlt _ hin)]
    exact hfz b off (by simpa using hin)
  · intro x hx _
    simpa using hx
end

theorem own : ownKnob Tryd.prog.godebug = none := by kernel_rfl
theorem laidOut' : laidOutB Tryd.prog = true := by kernel_rfl
theorem gEt : Tryd.prog.globalNamed "errors.errorType" = some 0 := by kernel_rfl
theorem rtNum : (Tryd.prog.cutTypes.find? (·.1 == "internal/reflectlite.rtype")).map (·.2) = some 139 := by kernel_rfl
theorem typesSize : Tryd.prog.types.size = 180 := by kernel_rfl
theorem oneRow : ((List.range 180).filter fun t => Tryd.prog.rowNamed t [101, 114, 114, 111, 114]) = [34] := by kernel_rfl

/-- what a row that lists errors.errorType gives -/
theorem et_of_handles {hs : List (String × DataW Unit)} {W : World} (hm : ("errors.errorType", Rows.laid_errors_errorType) ∈ hs) (h : handlesMet Tryd.prog hs W) : EtIs W := by
  obtain ⟨name, u, ty, e1, e2, e3, e4, e5⟩ := h _ hm
  have en : name = [101, 114, 114, 111, 114] := (Option.some.inj e1).symm
  subst en
  obtain rfl := Option.some.inj (rtNum.symm.trans e2)
  have hm : ty ∈ (List.range 180).filter fun t => Tryd.prog.rowNamed t [101, 114, 114, 111, 114] := List.mem_filter.2 ⟨List.mem_range.2 (by rw [← typesSize]; exact e3), e4⟩
  rw [oneRow] at hm
  obtain rfl := List.mem_singleton.1 hm
  have hh : typeHandle Tryd.prog 34 = .pointer (some ⟨1, 34, none⟩) := by kernel_rfl
  rw [hh] at e5
  have := World.var?_cell gEt e5 0
  simpa [EtIs] using this

theorem et_of_laid {W : World} (h : laidMetH Tryd.prog [("errors.errorType", Rows.laid_errors_errorType)] W) : EtIs W := by
  have h' : laidMet Tryd.prog [] W ∧ handlesMet Tryd.prog [("errors.errorType", Rows.laid_errors_errorType)] W := h
  exact et_of_handles (List.mem_singleton.2 rfl) h'.2

/-- a world that meets what the rows list -/
noncomputable def laidWorld (os : Os) : World :=
  let w0 := World.holding Tryd.prog os ⟨#[], #[], []⟩
  { w0 with heap := w0.heap.modify 0 fun
      | .cells _ t frozen => .cells #[.iface 139 (.agg #[.pointer (some ⟨1, 34, none⟩)])] t frozen
      | o => o }
theorem laidWorld_met (os : Os) (args : Array Value) : laidMetH Tryd.prog [("errors.errorType", Rows.laid_errors_errorType)] ((laidWorld os).forCall (fun _ _ => 0) ⟨#[], args, []⟩).memory :=
  laidMetH_of_parts (laidMet_nil _ _) (by kernel_rfl)
end Go.Proofs.YtaamnpbhmckpbaaDoor

/- Arguments opened: a []int; a frame; structs of ints. -/
namespace Go.Proofs.YtaamnpbhmckpbaaDoor
set_option linter.unusedVariables false
set_option linter.unusedSimpArgs false
open Go.ChangeShapes Go.WideShapes Go.ChangeAt Go.RowKit Go.Joins Go.Deep
section
variable {H : Type} {enc : TypeId × Value → H} {w : World}

theorem wf_bounds {n : Int} (h : (Lit.int .i64 n).wf = true) : -9223372036854775808 ≤ n ∧ n ≤ 9223372036854775807 := bounds_i64 h

theorem lits_cells {k : IntKind} {zs : List Int} {n j : Nat} {u : Value} (h : ((zs.take n).map (Value.int k))[j]? = some u) : j < zs.length ∧ u = .int k (zs.getD j 0) := by
  rw [List.getElem?_map] at h
  obtain ⟨x, hx, rfl⟩ := Option.map_eq_some_iff.1 h
  rw [List.getElem?_take] at hx
  split at hx
  · obtain ⟨hj, e⟩ := List.getElem?_eq_some_iff.1 hx
    exact ⟨hj, by simp [List.getD, hx]⟩
  · cases hx

set_option maxRecDepth 100000 in
theorem ints_of_trod {sp : Nat → Bool} {v : Value} {y : DataW H × List MemPlace} {fuel : Nat} (hsp : ∀ b, sp b = true) (hf : DataW.trod enc Tryd.prog w 0 sp true fuel 65 [v] = some y) :
    ∃ zs : List Int, Row w v zs.length (zs.map (Value.int .i64)) ∧ zs.length ≤ 9223372036854775807 ∧ ∀ x ∈ zs, -9223372036854775808 ≤ x ∧ x ≤ 9223372036854775807 := by
  rcases open_ints Tryd.underlying65 (k := .i64) Tryd.underlying3 (by kernel_rfl) hf with ⟨hc, _⟩ | ⟨a, len, cap, zs, hc, _, hl, hm, hlen, _, hcell, hw⟩
  · obtain rfl : v = .slice none 0 0 := (List.cons.inj hc).1
    exact ⟨[], Row.nil w, by simp, by simp⟩
  · obtain rfl : v = .slice (some a) len cap := (List.cons.inj hc).1
    rw [hsp a.block] at hlen
    simp only [if_true] at hlen
    have hl' : (zs.take len).length = len := by simp; omega
    refine ⟨zs.take len, ⟨some a, cap, by rw [hl'], by rw [hl']; exact hl, hm, fun h0 => ?_, fun g off ha j u hu => ?_⟩, ?_, fun x hx => wf_bounds (hw x (List.mem_of_mem_take hx))⟩
    · have hp : 0 < zs.length := by rw [hl'] at h0; omega
      obtain ⟨b, off, rfl, _⟩ := ints_at hcell hp
      exact ⟨b, off, rfl⟩
    · obtain ⟨hj, rfl⟩ := lits_cells hu
      have := hcell j hj
      obtain rfl := Option.some.inj ha
      rwa [Go.WideShapes.add_plain] at this
    · rw [hl']; unfold maxLen at hm; omega
set_option maxRecDepth 100000 in
theorem ints_of_reading {r : Reach} {b0 : Nat} {sp : Nat → Bool} {v : Value} {d : DataW H} {p : List MemPlace} (hsp : ∀ b, sp b = true) (hv : Value.okWide Tryd.prog w r b0 65 v) (h : DataW.Trod enc Tryd.prog w 0 sp true 65 v d p) :
    ∃ zs : List Int, Row w v zs.length (zs.map (Value.int .i64)) ∧ zs.length ≤ 9223372036854775807 ∧ ∀ x ∈ zs, -9223372036854775808 ≤ x ∧ x ≤ 9223372036854775807 := by
  obtain ⟨a0, l0, c0, rfl⟩ := okWide_slice Tryd.underlying65 hv
  obtain ⟨fuel, hf⟩ := h
  exact ints_of_trod hsp hf

def isI64 (P : Program) (f : Field) : Bool := match P.underlying f.type with
  | some (.int .i64) => true
  | _ => false
theorem isI64_out {P : Program} {f : Field} (h : isI64 P f = true) : P.underlying f.type = some (.int .i64) := by
  unfold isI64 at h
  split at h
  · assumption
  · cases h

theorem open_int_struct {P : Program} {t : TypeId} {fs : Array Field} {r : Reach} {b0 : Nat} {sp : Nat → Bool} {v : Value} {d : DataW H} {p : List MemPlace} (hs : P.underlying t = some (.struct fs))
    (hone : oneCellFields P fs = true) (hint : fs.toList.all (isI64 P) = true) (hC : P.cellsOf t = fs.size)
    (hv : Value.okWide P w r b0 t v) (h : DataW.Trod enc P w 0 sp true t v d p) :
    ∃ zs : List Int, v = .agg (zs.map (Value.int .i64)).toArray ∧ zs.length = fs.size ∧ ∀ x ∈ zs, -9223372036854775808 ≤ x ∧ x ≤ 9223372036854775807 := by
  obtain ⟨cs, rfl, hsz⟩ := okWide_struct hs hv
  obtain ⟨l⟩ := cs
  obtain ⟨fuel, hf⟩ := h
  obtain ⟨xs, n, _, _, hl, hlen, hg⟩ := DataW.trod_struct hs hf
  have hl' : l.length = fs.size := by simpa [hC] using hsz
  have each : ∀ (i : Nat) (hi : i < l.length), ∃ m, l[i] = .int .i64 m ∧ (Lit.int .i64 m).wf = true := fun i hi => by
    have hif : i < fs.size := by omega
    have hfi : fs[i]? = some fs[i] := by simp
    obtain ⟨o0, k0⟩ := hone_of hone i _ hfi
    have h1 := hg i _ hfi
    rw [o0, k0] at h1
    have hone' : ((Value.agg ⟨l⟩).cells.toList.drop i).take 1 = [l[i]] := by
      simp only [Value.cells]
      rw [List.drop_eq_getElem_cons (by simpa using hi)]
      rfl
    rw [hone', List.getElem?_eq_getElem (by omega)] at h1
    have hi64 : isI64 P fs[i] = true := List.all_eq_true.1 hint _ (by simp)
    obtain ⟨m, hm, _, hw⟩ := DataW.trod_int (isI64_out hi64) h1
    exact ⟨m, (List.cons.inj hm).1, hw⟩
  refine ⟨l.map intOf, ?_, by simpa using hl', fun x hx => ?_⟩
  · congr 1
    apply Array.ext'
    simp only [List.map_map]
    symm
    conv => rhs; rw [← List.map_id l]
    apply List.map_congr_left
    intro u hu
    obtain ⟨i, hi, rfl⟩ := List.getElem_of_mem hu
    obtain ⟨m, hm, _⟩ := each i hi
    simp [hm, intOf]
  · obtain ⟨u, hu, rfl⟩ := List.mem_map.1 hx
    obtain ⟨i, hi, rfl⟩ := List.getElem_of_mem hu
    obtain ⟨m, hm, hw⟩ := each i hi
    rw [hm]
    exact wf_bounds hw

set_option maxRecDepth 100000 in
theorem open_frame {r : Reach} {b0 : Nat} {sp : Nat → Bool} {v : Value} {d : DataW H} {p : List MemPlace} (hsp : ∀ b, sp b = true)
    (hv : Value.okWide Tryd.prog w r b0 67 v) (h : DataW.Trod enc Tryd.prog w 0 sp true 67 v d p) :
    ∃ (W H' : Int) (u : Value) (zs : List Int), v = .agg #[.int .i64 W, .int .i64 H', u] ∧ (-9223372036854775808 ≤ W ∧ W ≤ 9223372036854775807) ∧ (-9223372036854775808 ≤ H' ∧ H' ≤ 9223372036854775807) ∧
      Row w u zs.length (zs.map (Value.int .i64)) ∧ zs.length ≤ 9223372036854775807 ∧ ∀ x ∈ zs, -9223372036854775808 ≤ x ∧ x ≤ 9223372036854775807 := by
  obtain ⟨v0, v1, v2, y0, y1, y2, n, rfl, -, -, h0, h1, h2⟩ := open_agg3 Tryd.underlying67 (by kernel_rfl) (by kernel_rfl) hv h
  obtain ⟨m0, e0, -, w0⟩ := DataW.trod_int Tryd.underlying3 h0
  obtain ⟨m1, e1, -, w1⟩ := DataW.trod_int Tryd.underlying3 h1
  obtain ⟨zs, hz⟩ := ints_of_trod hsp h2
  obtain rfl := (List.cons.inj e0).1
  obtain rfl := (List.cons.inj e1).1
  exact ⟨m0, m1, v2, zs, rfl, wf_bounds w0, wf_bounds w1, hz⟩
end
end Go.Proofs.YtaamnpbhmckpbaaDoor

/- A vector as an argument, opened. -/
namespace Go.Proofs.YtaamnpbhmckpbaaDoor
set_option linter.unusedVariables false
set_option linter.unusedSimpArgs false
open Go.ChangeShapes Go.WideShapes Go.ChangeAt Go.RowKit Go.Joins Go.Deep
section
variable {H : Type} {enc : TypeId × Value → H} {w : World}
set_option maxRecDepth 100000 in
theorem open_vec {r : Reach} {b0 : Nat} {sp : Nat → Bool} {v : Value} {d : DataW H} {p : List MemPlace} (hv : Value.okWide Tryd.prog w r b0 69 v) (h : DataW.Trod enc Tryd.prog w 0 sp true 69 v d p) :
    ∃ x y : Int, v = .agg #[.int .i64 x, .int .i64 y] ∧ (-9223372036854775808 ≤ x ∧ x ≤ 9223372036854775807) ∧ -9223372036854775808 ≤ y ∧ y ≤ 9223372036854775807 := by
  obtain ⟨zs, hz, hl, hb⟩ := open_int_struct Tryd.underlying69 (by kernel_rfl) (by kernel_rfl) (by kernel_rfl) hv h
  match zs, hl with
  | [x, y], _ => exact ⟨x, y, by rw [hz]; rfl, hb x (by simp), hb y (by simp)⟩
end
end Go.Proofs.YtaamnpbhmckpbaaDoor

/- kinlaw11.MotionSamples: the walk. -/
namespace Go.Proofs.YtaamnpbhmckpbaaDoor
set_option linter.unusedVariables false
set_option linter.unusedSimpArgs false
open Go.RowKit Go.Extern.Stop Go.Stop Go.Extern

def mnF (zs : List Int) : Nat → Int
  | 0 => 255
  | k + 1 => min (mnF zs k) (zs.getD k 0)
def mxF (zs : List Int) : Nat → Int
  | 0 => 0
  | k + 1 => max (mxF zs k) (zs.getD k 0)
theorem mnF_le (zs : List Int) (n k : Nat) (h : k < n) : mnF zs n ≤ zs.getD k 0 := by
  induction n with
  | zero => omega
  | succ n ih =>
    unfold mnF
    by_cases e : k = n
    · subst e; omega
    · have := ih (by omega); omega
theorem mxF_ge (zs : List Int) (n k : Nat) (h : k < n) : zs.getD k 0 ≤ mxF zs n := by
  induction n with
  | zero => omega
  | succ n ih =>
    unfold mxF
    by_cases e : k = n
    · subst e; omega
    · have := ih (by omega); omega
theorem atV_between {W H lo hi : Int} {zs : List Int} (hm : may W H zs) (h : ∀ k, k < zs.length → lo ≤ zs.getD k 0 ∧ zs.getD k 0 ≤ hi) (x y : Int) : lo ≤ atV W H zs x y ∧ atV W H zs x y ≤ hi := by
  obtain ⟨k, hk, hk1, -⟩ := at_place hm x y
  unfold atV
  rw [hk]
  exact h k hk1
theorem halfV_between {W H lo hi : Int} {zs : List Int} (hm : may W H zs) (h : ∀ k, k < zs.length → lo ≤ zs.getD k 0 ∧ zs.getD k 0 ≤ hi) (x y : Int) : lo ≤ halfV W H zs x y ∧ halfV W H zs x y ≤ hi := by
  have v0 := atV_between hm h (x / 2) (y / 2)
  have v1 := atV_between hm h (x / 2 + 1) (y / 2)
  have v2 := atV_between hm h (x / 2) (y / 2 + 1)
  have v3 := atV_between hm h (x / 2 + 1) (y / 2 + 1)
  unfold halfV
  split
  · split <;> omega
  · split <;> omega
theorem halfV_even (W H : Int) (zs : List Int) (x y : Int) : halfV W H zs (2 * x) (2 * y) = atV W H zs x y := by
  unfold halfV
  rw [if_neg (by omega), if_neg (by omega), show 2 * x / 2 = x by omega, show 2 * y / 2 = y by omega]
/-- where a square may be moved -/
def plOk (x y i : Int) : Prop := (i = 4 ∨ i = 8) ∧ (0 ≤ x ∧ x ≤ 32) ∧ 0 ≤ y ∧ y ≤ 32
instance (x y i : Int) : Decidable (plOk x y i) := by unfold plOk; infer_instance
theorem movL_no {W H : Int} {zs : List Int} {x y i : Int} (h : ¬ plOk x y i) (X Y : Int) : movL W H zs x y i X Y = [] := by
  unfold movL
  exact if_neg fun ⟨_, h2, h3, h4, _⟩ => h ⟨h2, h3, h4⟩
theorem movL_vec {W H : Int} {zs : List Int} {x y i X Y : Int} (h : vecB X Y = false) : movL W H zs x y i X Y = [] := by
  unfold movL
  exact if_neg fun ⟨_, _, _, _, h5⟩ => by rw [h] at h5; cases h5
theorem movL_yes {W H : Int} {zs : List Int} {x y i X Y : Int} (hm : may W H zs) (h : plOk x y i) (hv : vecB X Y = true) : movL W H zs x y i X Y = rowL (i.toNat * i.toNat) (mvF W H zs x y X Y i.toNat) := by
  unfold movL
  exact if_pos ⟨hm, h.1, h.2.1, h.2.2, hv⟩
theorem movL_within {W H lo hi : Int} {zs : List Int} (hm : may W H zs) (h : ∀ k, k < zs.length → lo ≤ zs.getD k 0 ∧ zs.getD k 0 ≤ hi) (x y i X Y : Int) : within lo hi (movL W H zs x y i X Y) := by
  unfold movL
  split
  · refine within_of_gets fun j z hj hz => ?_
    rw [rowL_length] at hj
    rw [rowL_get hj] at hz
    obtain rfl := Option.some.inj hz
    exact halfV_between hm h _ _
  · exact fun z hz => by cases hz
theorem mov_get {W H : Int} {zs : List Int} {x y i p q : Int} (hm : may W H zs) (h : plOk x y i) (hv : vecB (2 * p) (2 * q) = true) : movL W H zs x y i (2 * p) (2 * q) = getL W H zs (x + p) (y + q) i := by
  have hv2 := vecB_true hv
  rw [movL_yes hm h hv]
  have ho : getOk W H zs (x + p) (y + q) i := ⟨hm, by rcases h.1 with rfl | rfl <;> decide, by unfold nearB; simp; have := h.2.1; omega, by unfold nearB; simp; have := h.2.2; omega⟩
  unfold getL
  rw [if_pos ho]
  congr 1
  funext k
  unfold mvF getF
  rw [show 2 * (x + ((k % i.toNat : Nat) : Int)) + 2 * p = 2 * (x + p + ((k % i.toNat : Nat) : Int)) by omega, show 2 * (y + ((k / i.toNat : Nat) : Int)) + 2 * q = 2 * (y + q + ((k / i.toNat : Nat) : Int)) by omega, halfV_even]
set_option maxHeartbeats 8000000 in
set_option maxRecDepth 20000 in
theorem samples_law (W H x y i X Y : Int) (xs : List Int) (va : Value) (w : World) (hg : EtIs w) (ra : Row w va xs.length (xs.map (Value.int .i64))) :
    Calls Tryd.prog 12 #[.agg #[.int .i64 W, .int .i64 H, va], .int .i64 x, .int .i64 y, .int .i64 i, .agg #[.int .i64 X, .int .i64 Y]] w fun e w' => e = .returned (.bool true) ∧ Ext w w' := by
  obtain ⟨a, ca, rfl⟩ := ra.form
  obtain ⟨n, hn⟩ : ∃ n, n = xs.length := ⟨_, rfl⟩
  by_cases h1 : n ≤ 5000
  · have IA : Ints w (.slice a xs.length ca) xs := ⟨ra, by omega⟩
    have UM := Lib.hid (fun w h => rmay_any W H xs a n ca w h)
    have HN := Lib.hid hn
    rw [← hn] at IA ⊢
    have HA := Lib.hid IA
    have t1 : ¬ (5000 : Int) < (n : Int) := by omega
    clear IA ra hn
    by_cases hm : may W H xs
    · have H1 := Lib.hid hm
      rw [decide_eq_true hm] at UM
      have hn0 : 0 < n := by have := may_area hm; have := hm.2.2.1; have := HN.out; omega
      obtain ⟨g, off, rfl⟩ := HA.out.had hn0
      have UB := Lib.hid (fun w h => mblock_any W H x y i X Y xs (some ⟨g, off, none⟩) n ca w h)
      have UZ := Lib.hid (fun w h => mblock_any W H x y i 0 0 xs (some ⟨g, off, none⟩) n ca w h)
      have UG := Lib.hid (fun w h => get_any W H x y i xs (some ⟨g, off, none⟩) n ca w h)
      clear hm
      by_cases ho : plOk x y i
      · obtain ⟨L, hL⟩ : ∃ L : Nat, i.toNat * i.toNat = L := ⟨_, rfl⟩
        have hz : movL W H xs x y i 0 0 = getL W H xs x y i := by have := mov_get (p := 0) (q := 0) H1.out ho (by decide); simpa using this
        have HLZ : Hid ((movL W H xs x y i 0 0).length = L) := by show _ = _; rw [movL_yes H1.out ho (by decide), rowL_length, hL]
        have HZ := Lib.hid hz
        have e1 : IntKind.i64.wrap (i * i) = (L : Int) := by rw [← hL]; rcases ho.1 with rfl | rfl <;> decide
        have e2 : ((L : Int) == 0) = false := by rw [← hL]; rcases ho.1 with rfl | rfl <;> decide
        cases hv : vecB X Y with
        | true =>
          have HLP : Hid ((movL W H xs x y i X Y).length = L) := by show _ = _; rw [movL_yes H1.out ho hv, rowL_length, hL]
          clear hz hv ho hL
          have E0 : Ext w ((w.alloc (.cells #[.int .i64 W, .int .i64 H, .slice (some ⟨g, off, none⟩) n ca] 67)).alloc (.cells #[.int .i64 X, .int .i64 Y] 69)) := (by repeat (first | exact Ext.refl _ | assumption | refine Ext.alloc ?_ _ | refine Ext.drew ?_ | refine Ext.drewN ?_ _ | refine Ext.setCell ?_ (by first | exact Nat.le_refl _ | (simp; done) | omega) _ | refine Ext.trans ?_ (by assumption)))
          obtain ⟨F0, G0⟩ := FrBox.vec w W H X Y (.slice (some ⟨g, off, none⟩) n ca)
          go_enter Tryd.func12, Tryd.ntmps12
          go_wp2_with fail
          revert E0 F0 G0
          generalize (w.alloc (.cells #[.int .i64 W, .int .i64 H, .slice (some ⟨g, off, none⟩) n ca] 67)).alloc (.cells #[.int .i64 X, .int .i64 Y] 69) = w0
          intro E0 F0 G0
          refine (first11_any _ (hg.ext E0)).mono ?_; rintro e w1 ⟨rfl, hx1⟩
          have E1 := E0.trans hx1
          have F1 := Lib.hid (F0.ext hx1)
          have G1 := Lib.hid (G0.ext hx1)
          obtain ⟨p0, p1, p2⟩ := F1.out
          clear F0 G0 E0 hx1
          go_wp2_with fail
          refine (UM.out _ (HA.out.ext E1)).mono ?_; rintro e w2 ⟨rfl, hx2⟩
          have E2 := E1.trans hx2
          have F2 := Lib.hid (F1.out.ext hx2)
          have G2 := Lib.hid (G1.out.ext hx2)
          clear p0 p1 p2 F1 G1 E1 hx2
          go_wp2_with fail
          go_loopw [11, 12, 13] (fun av bv iv wr => ∃ k : Nat, k ≤ n ∧ iv = .int .i64 k ∧ av = .int .i64 (mnF xs k) ∧ bv = .int .i64 (mxF xs k) ∧ Hid (Ext w2 wr)) (fun _ _ iv _ => n - (intOf iv).toNat)
          case atStart => exact ⟨0, Nat.zero_le _, rfl, rfl, rfl, Ext.refl _⟩
          case round =>
            obtain ⟨k, hk, rfl, rfl, rfl, HE⟩ := hrel
            obtain ⟨p0, p1, p2⟩ := F2.out.ext HE.out
            by_cases hlt : k < n
            · have HKS : Hid (mnF xs (k + 1) = min (mnF xs k) (xs.getD k 0) ∧ mxF xs (k + 1) = max (mxF xs k) (xs.getD k 0)) := ⟨rfl, rfl⟩
              have cx := Lib.hid ((HA.out.ext (E2.trans HE.out)).at (get_of_lt (j := k) (by rw [← HN.out]; exact hlt)))
              have r1 := mx2
              have r2 := mn2
              obtain ⟨A, hA⟩ : ∃ A, mnF xs k = A := ⟨_, rfl⟩
              obtain ⟨B, hB⟩ : ∃ B, mxF xs k = B := ⟨_, rfl⟩
              obtain ⟨x0, hx0⟩ : ∃ x0, xs.getD k 0 = x0 := ⟨_, rfl⟩
              obtain ⟨C, hC⟩ : ∃ C, min A x0 = C := ⟨_, rfl⟩
              obtain ⟨D, hD⟩ : ∃ D, max B x0 = D := ⟨_, rfl⟩
              rw [hA, hB, hx0, hC, hD] at HKS
              rw [hA, hB]
              rw [hx0] at cx
              have c3 := cx.out
              have k1 : (0 : Int) ≤ (k : Int) := by omega
              have k2 : (k : Int) < (n : Int) := by omega
              clear hA hB hx0 cx
              go_wp2_with fail
              go_quiet (fail)
              go_wp2
              go_roundw
              case rel => exact ⟨k + 1, by omega, by go_num, by rw [HKS.out.1], by rw [HKS.out.2], HE.out.drewN _⟩
              case measure => simp [intOf]; omega
            · obtain rfl : k = n := by omega
              have HW1 := Lib.hid (fun i X Y => movL_within (lo := mnF xs k) (hi := mxF xs k) H1.out (fun j hj => ⟨mnF_le xs k j (by rw [HN.out]; exact hj), mxF_ge xs k j (by rw [HN.out]; exact hj)⟩) x y i X Y)
              obtain ⟨A, hA⟩ : ∃ A, mnF xs k = A := ⟨_, rfl⟩
              obtain ⟨B, hB⟩ : ∃ B, mxF xs k = B := ⟨_, rfl⟩
              rw [hA, hB] at HW1 ⊢
              clear hA hB
              obtain ⟨q0, q1⟩ := G2.out.ext HE.out
              have HAE := Lib.hid (HA.out.ext (E2.trans HE.out))
              go_wp2_with fail
              refine (UB.out _ HAE.out).mono ?_; rintro e w4 ⟨u4, rfl, hx4, hi4⟩
              have F4 := Lib.hid ((F2.out.ext HE.out).ext hx4)
              have I4 := Lib.hid hi4
              clear p0 p1 p2 q0 q1 hi4
              obtain ⟨p0, p1, p2⟩ := F4.out
              go_wp2_with fail
              refine (UZ.out _ (HAE.out.ext hx4)).mono ?_; rintro e w5 ⟨u5, rfl, hx5, hi5⟩
              have I5 := Lib.hid hi5
              have E5 := (E2.trans HE.out).trans (hx4.trans hx5)
              clear p0 p1 p2 hi5
              go_wp2_with fail
              refine (first11_any _ (hg.ext E5)).mono ?_; rintro e w6 ⟨rfl, hx6⟩
              go_wp2_with fail
              refine (within_any _ _ _ _ _ (I4.out.ext (hx5.trans hx6))).mono ?_; rintro e w7 ⟨rfl, hx7⟩
              rw [decide_eq_true (HW1.out _ _ _)]
              have I5' := Lib.hid (I5.out.ext (hx6.trans hx7))
              have E7 := E5.trans (hx6.trans hx7)
              obtain ⟨p0, p1, p2⟩ := F4.out.ext (hx5.trans (hx6.trans hx7))
              obtain ⟨a4, c4, rfl⟩ := I4.out.form
              obtain ⟨a5, c5, rfl⟩ := I5.out.form
              rw [HLP.out]
              rw [HLZ.out] at I5' ⊢
              go_wp2_with fail
              refine (UG.out _ (HAE.out.ext (hx4.trans (hx5.trans (hx6.trans hx7))))).mono ?_; rintro e w8 ⟨u8, rfl, hx8, hi8⟩
              rw [← HZ.out] at hi8
              go_wp2_with fail
              refine (ints_same _ _ _ _ _ (I5'.out.ext hx8) hi8).mono ?_; rintro e w9 ⟨rfl, hx9⟩
              rw [decide_eq_true (rfl : movL W H xs x y i 0 0 = movL W H xs x y i 0 0)]
              go_wp2
              go_ret
              exact ⟨rfl, (E7.trans hx8).trans hx9⟩
        | false =>
          have HLP : Hid ((movL W H xs x y i X Y).length = 0) := by show _ = _; rw [movL_vec hv]; rfl
          clear hz hv ho hL
          have E0 : Ext w ((w.alloc (.cells #[.int .i64 W, .int .i64 H, .slice (some ⟨g, off, none⟩) n ca] 67)).alloc (.cells #[.int .i64 X, .int .i64 Y] 69)) := (by repeat (first | exact Ext.refl _ | assumption | refine Ext.alloc ?_ _ | refine Ext.drew ?_ | refine Ext.drewN ?_ _ | refine Ext.setCell ?_ (by first | exact Nat.le_refl _ | (simp; done) | omega) _ | refine Ext.trans ?_ (by assumption)))
          obtain ⟨F0, G0⟩ := FrBox.vec w W H X Y (.slice (some ⟨g, off, none⟩) n ca)
          go_enter Tryd.func12, Tryd.ntmps12
          go_wp2_with fail
          revert E0 F0 G0
          generalize (w.alloc (.cells #[.int .i64 W, .int .i64 H, .slice (some ⟨g, off, none⟩) n ca] 67)).alloc (.cells #[.int .i64 X, .int .i64 Y] 69) = w0
          intro E0 F0 G0
          refine (first11_any _ (hg.ext E0)).mono ?_; rintro e w1 ⟨rfl, hx1⟩
          have E1 := E0.trans hx1
          have F1 := Lib.hid (F0.ext hx1)
          have G1 := Lib.hid (G0.ext hx1)
          obtain ⟨p0, p1, p2⟩ := F1.out
          clear F0 G0 E0 hx1
          go_wp2_with fail
          refine (UM.out _ (HA.out.ext E1)).mono ?_; rintro e w2 ⟨rfl, hx2⟩
          have E2 := E1.trans hx2
          have F2 := Lib.hid (F1.out.ext hx2)
          have G2 := Lib.hid (G1.out.ext hx2)
          clear p0 p1 p2 F1 G1 E1 hx2
          go_wp2_with fail
          go_loopw [11, 12, 13] (fun av bv iv wr => ∃ k : Nat, k ≤ n ∧ iv = .int .i64 k ∧ av = .int .i64 (mnF xs k) ∧ bv = .int .i64 (mxF xs k) ∧ Hid (Ext w2 wr)) (fun _ _ iv _ => n - (intOf iv).toNat)
          case atStart => exact ⟨0, Nat.zero_le _, rfl, rfl, rfl, Ext.refl _⟩
          case round =>
            obtain ⟨k, hk, rfl, rfl, rfl, HE⟩ := hrel
            obtain ⟨p0, p1, p2⟩ := F2.out.ext HE.out
            by_cases hlt : k < n
            · have HKS : Hid (mnF xs (k + 1) = min (mnF xs k) (xs.getD k 0) ∧ mxF xs (k + 1) = max (mxF xs k) (xs.getD k 0)) := ⟨rfl, rfl⟩
              have cx := Lib.hid ((HA.out.ext (E2.trans HE.out)).at (get_of_lt (j := k) (by rw [← HN.out]; exact hlt)))
              have r1 := mx2
              have r2 := mn2
              obtain ⟨A, hA⟩ : ∃ A, mnF xs k = A := ⟨_, rfl⟩
              obtain ⟨B, hB⟩ : ∃ B, mxF xs k = B := ⟨_, rfl⟩
              obtain ⟨x0, hx0⟩ : ∃ x0, xs.getD k 0 = x0 := ⟨_, rfl⟩
              obtain ⟨C, hC⟩ : ∃ C, min A x0 = C := ⟨_, rfl⟩
              obtain ⟨D, hD⟩ : ∃ D, max B x0 = D := ⟨_, rfl⟩
              rw [hA, hB, hx0, hC, hD] at HKS
              rw [hA, hB]
              rw [hx0] at cx
              have c3 := cx.out
              have k1 : (0 : Int) ≤ (k : Int) := by omega
              have k2 : (k : Int) < (n : Int) := by omega
              clear hA hB hx0 cx
              go_wp2_with fail
              go_quiet (fail)
              go_wp2
              go_roundw
              case rel => exact ⟨k + 1, by omega, by go_num, by rw [HKS.out.1], by rw [HKS.out.2], HE.out.drewN _⟩
              case measure => simp [intOf]; omega
            · obtain rfl : k = n := by omega
              have HW1 := Lib.hid (fun i X Y => movL_within (lo := mnF xs k) (hi := mxF xs k) H1.out (fun j hj => ⟨mnF_le xs k j (by rw [HN.out]; exact hj), mxF_ge xs k j (by rw [HN.out]; exact hj)⟩) x y i X Y)
              obtain ⟨A, hA⟩ : ∃ A, mnF xs k = A := ⟨_, rfl⟩
              obtain ⟨B, hB⟩ : ∃ B, mxF xs k = B := ⟨_, rfl⟩
              rw [hA, hB] at HW1 ⊢
              clear hA hB
              obtain ⟨q0, q1⟩ := G2.out.ext HE.out
              have HAE := Lib.hid (HA.out.ext (E2.trans HE.out))
              go_wp2_with fail
              refine (UB.out _ HAE.out).mono ?_; rintro e w4 ⟨u4, rfl, hx4, hi4⟩
              have F4 := Lib.hid ((F2.out.ext HE.out).ext hx4)
              have I4 := Lib.hid hi4
              clear p0 p1 p2 q0 q1 hi4
              obtain ⟨p0, p1, p2⟩ := F4.out
              go_wp2_with fail
              refine (UZ.out _ (HAE.out.ext hx4)).mono ?_; rintro e w5 ⟨u5, rfl, hx5, hi5⟩
              have I5 := Lib.hid hi5
              have E5 := (E2.trans HE.out).trans (hx4.trans hx5)
              clear p0 p1 p2 hi5
              go_wp2_with fail
              refine (first11_any _ (hg.ext E5)).mono ?_; rintro e w6 ⟨rfl, hx6⟩
              go_wp2_with fail
              refine (within_any _ _ _ _ _ (I4.out.ext (hx5.trans hx6))).mono ?_; rintro e w7 ⟨rfl, hx7⟩
              rw [decide_eq_true (HW1.out _ _ _)]
              have I5' := Lib.hid (I5.out.ext (hx6.trans hx7))
              have E7 := E5.trans (hx6.trans hx7)
              obtain ⟨p0, p1, p2⟩ := F4.out.ext (hx5.trans (hx6.trans hx7))
              obtain ⟨a4, c4, rfl⟩ := I4.out.form
              obtain ⟨a5, c5, rfl⟩ := I5.out.form
              rw [HLP.out]
              rw [HLZ.out] at I5' ⊢
              go_wp2_with fail
              refine (UG.out _ (HAE.out.ext (hx4.trans (hx5.trans (hx6.trans hx7))))).mono ?_; rintro e w8 ⟨u8, rfl, hx8, hi8⟩
              rw [← HZ.out] at hi8
              go_wp2_with fail
              refine (ints_same _ _ _ _ _ (I5'.out.ext hx8) hi8).mono ?_; rintro e w9 ⟨rfl, hx9⟩
              rw [decide_eq_true (rfl : movL W H xs x y i 0 0 = movL W H xs x y i 0 0)]
              go_wp2
              go_ret
              exact ⟨rfl, (E7.trans hx8).trans hx9⟩
      · have HLZ : Hid ((movL W H xs x y i 0 0).length = 0) := by show _ = _; rw [movL_no ho]; rfl
        have HLP : Hid ((movL W H xs x y i X Y).length = 0) := by show _ = _; rw [movL_no ho]; rfl
        clear ho
        have E0 : Ext w ((w.alloc (.cells #[.int .i64 W, .int .i64 H, .slice (some ⟨g, off, none⟩) n ca] 67)).alloc (.cells #[.int .i64 X, .int .i64 Y] 69)) := (by repeat (first | exact Ext.refl _ | assumption | refine Ext.alloc ?_ _ | refine Ext.drew ?_ | refine Ext.drewN ?_ _ | refine Ext.setCell ?_ (by first | exact Nat.le_refl _ | (simp; done) | omega) _ | refine Ext.trans ?_ (by assumption)))
        obtain ⟨F0, G0⟩ := FrBox.vec w W H X Y (.slice (some ⟨g, off, none⟩) n ca)
        go_enter Tryd.func12, Tryd.ntmps12
        go_wp2_with fail
        revert E0 F0 G0
        generalize (w.alloc (.cells #[.int .i64 W, .int .i64 H, .slice (some ⟨g, off, none⟩) n ca] 67)).alloc (.cells #[.int .i64 X, .int .i64 Y] 69) = w0
        intro E0 F0 G0
        refine (first11_any _ (hg.ext E0)).mono ?_; rintro e w1 ⟨rfl, hx1⟩
        have E1 := E0.trans hx1
        have F1 := Lib.hid (F0.ext hx1)
        have G1 := Lib.hid (G0.ext hx1)
        obtain ⟨p0, p1, p2⟩ := F1.out
        clear F0 G0 E0 hx1
        go_wp2_with fail
        refine (UM.out _ (HA.out.ext E1)).mono ?_; rintro e w2 ⟨rfl, hx2⟩
        have E2 := E1.trans hx2
        have F2 := Lib.hid (F1.out.ext hx2)
        have G2 := Lib.hid (G1.out.ext hx2)
        clear p0 p1 p2 F1 G1 E1 hx2
        go_wp2_with fail
        go_loopw [11, 12, 13] (fun av bv iv wr => ∃ k : Nat, k ≤ n ∧ iv = .int .i64 k ∧ av = .int .i64 (mnF xs k) ∧ bv = .int .i64 (mxF xs k) ∧ Hid (Ext w2 wr)) (fun _ _ iv _ => n - (intOf iv).toNat)
        case atStart => exact ⟨0, Nat.zero_le _, rfl, rfl, rfl, Ext.refl _⟩
        case round =>
          obtain ⟨k, hk, rfl, rfl, rfl, HE⟩ := hrel
          obtain ⟨p0, p1, p2⟩ := F2.out.ext HE.out
          by_cases hlt : k < n
          · have HKS : Hid (mnF xs (k + 1) = min (mnF xs k) (xs.getD k 0) ∧ mxF xs (k + 1) = max (mxF xs k) (xs.getD k 0)) := ⟨rfl, rfl⟩
            have cx := Lib.hid ((HA.out.ext (E2.trans HE.out)).at (get_of_lt (j := k) (by rw [← HN.out]; exact hlt)))
            have r1 := mx2
            have r2 := mn2
            obtain ⟨A, hA⟩ : ∃ A, mnF xs k = A := ⟨_, rfl⟩
            obtain ⟨B, hB⟩ : ∃ B, mxF xs k = B := ⟨_, rfl⟩
            obtain ⟨x0, hx0⟩ : ∃ x0, xs.getD k 0 = x0 := ⟨_, rfl⟩
            obtain ⟨C, hC⟩ : ∃ C, min A x0 = C := ⟨_, rfl⟩
            obtain ⟨D, hD⟩ : ∃ D, max B x0 = D := ⟨_, rfl⟩
            rw [hA, hB, hx0, hC, hD] at HKS
            rw [hA, hB]
            rw [hx0] at cx
            have c3 := cx.out
            have k1 : (0 : Int) ≤ (k : Int) := by omega
            have k2 : (k : Int) < (n : Int) := by omega
            clear hA hB hx0 cx
            go_wp2_with fail
            go_quiet (fail)
            go_wp2
            go_roundw
            case rel => exact ⟨k + 1, by omega, by go_num, by rw [HKS.out.1], by rw [HKS.out.2], HE.out.drewN _⟩
            case measure => simp [intOf]; omega
          · obtain rfl : k = n := by omega
            have HW1 := Lib.hid (fun i X Y => movL_within (lo := mnF xs k) (hi := mxF xs k) H1.out (fun j hj => ⟨mnF_le xs k j (by rw [HN.out]; exact hj), mxF_ge xs k j (by rw [HN.out]; exact hj)⟩) x y i X Y)
            obtain ⟨A, hA⟩ : ∃ A, mnF xs k = A := ⟨_, rfl⟩
            obtain ⟨B, hB⟩ : ∃ B, mxF xs k = B := ⟨_, rfl⟩
            rw [hA, hB] at HW1 ⊢
            clear hA hB
            obtain ⟨q0, q1⟩ := G2.out.ext HE.out
            have HAE := Lib.hid (HA.out.ext (E2.trans HE.out))
            go_wp2_with fail
            refine (UB.out _ HAE.out).mono ?_; rintro e w4 ⟨u4, rfl, hx4, hi4⟩
            have F4 := Lib.hid ((F2.out.ext HE.out).ext hx4)
            have I4 := Lib.hid hi4
            clear p0 p1 p2 q0 q1 hi4
            obtain ⟨p0, p1, p2⟩ := F4.out
            go_wp2_with fail
            refine (UZ.out _ (HAE.out.ext hx4)).mono ?_; rintro e w5 ⟨u5, rfl, hx5, hi5⟩
            have I5 := Lib.hid hi5
            have E5 := (E2.trans HE.out).trans (hx4.trans hx5)
            clear p0 p1 p2 hi5
            go_wp2_with fail
            refine (first11_any _ (hg.ext E5)).mono ?_; rintro e w6 ⟨rfl, hx6⟩
            go_wp2_with fail
            refine (within_any _ _ _ _ _ (I4.out.ext (hx5.trans hx6))).mono ?_; rintro e w7 ⟨rfl, hx7⟩
            rw [decide_eq_true (HW1.out _ _ _)]
            have I5' := Lib.hid (I5.out.ext (hx6.trans hx7))
            have E7 := E5.trans (hx6.trans hx7)
            obtain ⟨p0, p1, p2⟩ := F4.out.ext (hx5.trans (hx6.trans hx7))
            obtain ⟨a4, c4, rfl⟩ := I4.out.form
            obtain ⟨a5, c5, rfl⟩ := I5.out.form
            rw [HLP.out, HLZ.out]
            go_wp2
            go_ret
            exact ⟨rfl, E7⟩
    · rw [decide_eq_false hm] at UM
      clear hm
      have E0 : Ext w ((w.alloc (.cells #[.int .i64 W, .int .i64 H, .slice a n ca] 67)).alloc (.cells #[.int .i64 X, .int .i64 Y] 69)) := (by repeat (first | exact Ext.refl _ | assumption | refine Ext.alloc ?_ _ | refine Ext.drew ?_ | refine Ext.drewN ?_ _ | refine Ext.setCell ?_ (by first | exact Nat.le_refl _ | (simp; done) | omega) _ | refine Ext.trans ?_ (by assumption)))
      obtain ⟨F0, G0⟩ := FrBox.vec w W H X Y (.slice a n ca)
      go_enter Tryd.func12, Tryd.ntmps12
      go_wp2_with fail
      revert E0 F0 G0
      generalize (w.alloc (.cells #[.int .i64 W, .int .i64 H, .slice a n ca] 67)).alloc (.cells #[.int .i64 X, .int .i64 Y] 69) = w0
      intro E0 F0 G0
      refine (first11_any _ (hg.ext E0)).mono ?_; rintro e w1 ⟨rfl, hx1⟩
      have E1 := E0.trans hx1
      have F1 := Lib.hid (F0.ext hx1)
      have G1 := Lib.hid (G0.ext hx1)
      obtain ⟨p0, p1, p2⟩ := F1.out
      clear F0 G0 E0 hx1
      go_wp2_with fail
      refine (UM.out _ (HA.out.ext E1)).mono ?_; rintro e w3 ⟨rfl, hx3⟩
      have E1 := E1.trans hx3
      clear p0 p1 p2
      go_wp2_with fail
      refine (first11_any _ (hg.ext E1)).mono ?_; rintro e w2 ⟨rfl, hx2⟩
      go_wp2
      go_ret
      exact ⟨rfl, E1.trans hx2⟩
  · rw [← hn]
    clear ra hn
    have t1 : (5000 : Int) < (n : Int) := by omega
    have E0 : Ext w ((w.alloc (.cells #[.int .i64 W, .int .i64 H, .slice a n ca] 67)).alloc (.cells #[.int .i64 X, .int .i64 Y] 69)) := (by repeat (first | exact Ext.refl _ | assumption | refine Ext.alloc ?_ _ | refine Ext.drew ?_ | refine Ext.drewN ?_ _ | refine Ext.setCell ?_ (by first | exact Nat.le_refl _ | (simp; done) | omega) _ | refine Ext.trans ?_ (by assumption)))
    obtain ⟨F0, G0⟩ := FrBox.vec w W H X Y (.slice a n ca)
    go_enter Tryd.func12, Tryd.ntmps12
    go_wp2_with fail
    revert E0 F0 G0
    generalize (w.alloc (.cells #[.int .i64 W, .int .i64 H, .slice a n ca] 67)).alloc (.cells #[.int .i64 X, .int .i64 Y] 69) = w0
    intro E0 F0 G0
    refine (first11_any _ (hg.ext E0)).mono ?_; rintro e w1 ⟨rfl, hx1⟩
    have E1 := E0.trans hx1
    have F1 := Lib.hid (F0.ext hx1)
    have G1 := Lib.hid (G0.ext hx1)
    obtain ⟨p0, p1, p2⟩ := F1.out
    clear F0 G0 E0 hx1
    go_wp2_with fail
    refine (first11_any _ (hg.ext E1)).mono ?_; rintro e w2 ⟨rfl, hx2⟩
    go_wp2
    go_ret
    exact ⟨rfl, E1.trans hx2⟩
end Go.Proofs.YtaamnpbhmckpbaaDoor
