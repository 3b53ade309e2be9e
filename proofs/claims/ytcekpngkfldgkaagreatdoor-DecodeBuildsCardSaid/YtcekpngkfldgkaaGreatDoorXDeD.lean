/- decode.build. -/
import Derived.Test.YtcekpngkfldgkaaGreatDoorXTk
import Derived.Test.YtcekpngkfldgkaaGreatDoorXHa
import Derived.Test.YtcekpngkfldgkaaGreatDoorXSz8
namespace Go.Proofs.YtcekpngkfldgkaaGreatDoor
set_option linter.unusedVariables false
set_option linter.unusedSimpArgs false
open Go.RowKit Go.Extern.Stop Go.Stop Go.Extern
theorem FrBox.kp {w w' : World} {b g : Nat} {W H : Int} {v : Value} (h : FrBox w b W H v) (k : Kp g w w') (hb : b ≠ g) : FrBox w' b W H v := ⟨k.cell h.1 hb, k.cell h.2.1 hb, k.cell h.2.2 hb⟩
theorem BoxIs.kp {w w' : World} {b g : Nat} {cs : Array Value} {T : TypeId} (h : BoxIs w b cs T) (k : Kp g w w') (hb : b ≠ g) : BoxIs w' b cs T := (k.block h.lt hb).trans h
theorem sk_kp {F G : Nat → Prop} {g : Nat} {w w' : World} (h : Step F w G w') (hF : ∀ k, F k → k = g) : Kp g w w' :=
 ⟨h.1.1.1, h.1.1.2.1, h.1.1.2.2, h.1.2.1, fun i hi hn => h.1.2.2 i hi (fun hf => hn (by rw [hF i hf]))⟩
theorem ho_kp {w w' : World} {X F : Nat → Prop} {P : World → Prop} {g : Nat} (h : HoF w X P) (hd : ∀ k, X k → ¬ F k) (hg : F g) (k : Kp g w w') : HoF w' X P := HoF.obj.same h (fun i hi => k.block (h.1 i hi) (fun e => hd i hi (e ▸ hg)))
theorem mblock_x (W H x y vx vy : Int) (zs : List Int) (a : Option Addr) (n cap : Nat) (w : World) (h : Ints w (.slice a n cap) zs) (hm : may W H zs) (hv : vecB vx vy = true) (hl : lies W H x y 8) :
 Calls Tryz.prog 62 #[.agg #[.int .i64 W, .int .i64 H, .slice a n cap], .int .i64 x, .int .i64 y, .int .i64 8, .agg #[.int .i64 vx, .int .i64 vy]] w fun e w' => ∃ u, e = .returned u ∧ Ext w w' ∧ w'.ownsRow w.heap.size 3 1 u 64 ((movL W H zs x y vx vy).map (Value.int .i64)) := by
 have h1 := sideB_true hm.1
 have h2 := sideB_true hm.2.1
 obtain ⟨l1, l2, l3, l4, l5, l6⟩ := hl
 exact mblock_own_8 W H x y vx vy zs a n cap w h hm hv ⟨by omega, by omega⟩ ⟨by omega, by omega⟩
theorem blk_arm {u w : World} {W H x y vx vy : Int} {ps : List Int} {pa : Option Addr} {pn pc : Nat} (hip : Ints u (.slice pa pn pc) ps) (hmp : may W H ps) (hv : vecB vx vy = true) (hl : lies W H x y 8) (hs : w.heap.size ≤ u.heap.size) (W' : World) (k : Ext u W') :
 Calls Tryz.prog 62 #[.agg #[.int .i64 W, .int .i64 H, .slice pa pn pc], .int .i64 x, .int .i64 y, .int .i64 8, .agg #[.int .i64 vx, .int .i64 vy]] W' fun e w' => ∃ o, e = .returned o ∧ Ext u w' ∧ HoF w' (fun k => o.ownBlock = some k) (fun W2 => Ints W2 o (movL W H ps x y vx vy)) ∧ ∀ k, o.ownBlock = some k → w.heap.size ≤ k := by
 refine (mblock_x W H x y vx vy ps pa pn pc W' (hip.ext k) hmp hv hl).mono ?_
 rintro e w' ⟨o, rfl, hx, ho⟩
 have ho2 := own_mono ho (Nat.le_trans hs k.size)
 exact ⟨o, rfl, k.trans hx, (HoF.row ho2).imp (fun W2 h => Ints.of_owns h (by rw [mov_len]; decide)), fun i hi => (ho2.lt i hi).1⟩
theorem fpost_arm {F : Nat → Prop} {g : Nat} {f : FuncId} {args : Array Value} {v : Value} {s : Value × List Int} {u w W' : World} (hF : ∀ k, F k → k = g) (E : Ext w u) (k : Ext u W') (c : Calls Tryz.prog f args W' (FPost TlF F W' v s)) : Calls Tryz.prog f args W' fun e w' => e = .returned v ∧ ∃ F', TlF w' F' s ∧ Step F w F' w' ∧ Kp g u w' := by
 refine c.mono ?_
 rintro e w' ⟨rfl, F', hT, st⟩
 exact ⟨rfl, F', hT, (Step.of_ext (F := F) (E.trans k)).trans st, (Kp.of_ext k).trans (sk_kp st hF)⟩
theorem intra_arm {F G : Nat → Prop} {g n cap : Nat} {f : FuncId} {args : Array Value} {v : Value} {zs : List Int} {u w v0 W' : World} (kk : Kp g u v0) (st0 : Step F w G v0) (hG : ∀ k, G k → k = g) (k : Ext v0 W') (c : Calls Tryz.prog f args W' (FPost TlF G W' v (.slice (some ⟨g, 0, none⟩) n cap, zs))) : Calls Tryz.prog f args W' fun e w' => e = .returned v ∧ ∃ F', TlF w' F' (.slice (some ⟨g, 0, none⟩) n cap, zs) ∧ Step F w F' w' ∧ Kp g u w' ∧ ∀ k, F' k → k = g := by
 refine c.mono ?_
 rintro e w' ⟨rfl, F', hT, st⟩
 exact ⟨rfl, F', hT, st0.trans ((Step.of_ext k).trans st), kk.trans ((Kp.of_ext k).trans (sk_kp st hG)), fun i hi => (Option.some.inj ((hT.2 i).1 hi) : g = i).symm⟩
set_option maxHeartbeats 4000000 in
set_option maxRecDepth 20000 in
theorem dbuild_0 (W H x y qp : Int) (zs ps : List Int) (g n cap : Nat) (pa : Option Addr) (pn pc : Nat) (gm ga gb gc gd gx gy : Int) (aL a0 a1 a2 a3 : Option Addr) (lL cL l0 c0 l1 c1 l2 c2 l3 c3 : Nat) (w : World) (F : Nat → Prop) (h : TlF w F (.slice (some ⟨g, 0, none⟩) n cap, zs)) (hm : may W H zs) (hl : lies W H x y 8) (hmp : may W H ps) (hip : Ints w (.slice pa pn pc) ps) :
 Calls Tryz.prog 35 #[.agg #[.int .i64 W, .int .i64 H, .slice (some ⟨g, 0, none⟩) n cap], .agg #[.int .i64 W, .int .i64 H, .slice pa pn pc], .int .i64 x, .int .i64 y, .int .i64 qp, sqV 0 gm ga gb gc gd gx gy (.slice aL lL cL) (.slice a0 l0 c0) (.slice a1 l1 c1) (.slice a2 l2 c2) (.slice a3 l3 c3)] w
  (FPost TlF F w .nilIface (.slice (some ⟨g, 0, none⟩) n cap, putRow W zs x y 8 (movL W H ps x y 0 0))) := by
 unfold sqV
 have hFI : ∀ k, F k → k = g := fun k hk => ((Option.some.inj ((h.2 k).1 hk)) : g = k).symm
 have hFg : F g := (h.2 g).2 rfl
 have hgw : g < w.heap.size := TlF.obj.lt h g hFg
 have FB0 := (FrBox.new w W H (.slice (some ⟨g, 0, none⟩) n cap)).ext (((Ext.refl _).alloc (.cells #[.int .i64 W, .int .i64 H, .slice pa pn pc] 24)).alloc (.cells #[.int .i64 0, .int .i64 gm, .int .i64 ga, .int .i64 gb, .int .i64 gc, .int .i64 gd, .int .i64 gx, .int .i64 gy, .slice aL lL cL, .slice a0 l0 c0, .slice a1 l1 c1, .slice a2 l2 c2, .slice a3 l3 c3] 30))
 have FP0 := (FrBox.new (w.alloc (.cells #[.int .i64 W, .int .i64 H, .slice (some ⟨g, 0, none⟩) n cap] 24)) W H (.slice pa pn pc)).ext ((Ext.refl _).alloc (.cells #[.int .i64 0, .int .i64 gm, .int .i64 ga, .int .i64 gb, .int .i64 gc, .int .i64 gd, .int .i64 gx, .int .i64 gy, .slice aL lL cL, .slice a0 l0 c0, .slice a1 l1 c1, .slice a2 l2 c2, .slice a3 l3 c3] 30))
 have BS0 := BoxIs.new ((w.alloc (.cells #[.int .i64 W, .int .i64 H, .slice (some ⟨g, 0, none⟩) n cap] 24)).alloc (.cells #[.int .i64 W, .int .i64 H, .slice pa pn pc] 24)) #[.int .i64 0, .int .i64 gm, .int .i64 ga, .int .i64 gb, .int .i64 gc, .int .i64 gd, .int .i64 gx, .int .i64 gy, .slice aL lL cL, .slice a0 l0 c0, .slice a1 l1 c1, .slice a2 l2 c2, .slice a3 l3 c3] 30
 have E0 := (((Ext.refl w).alloc (.cells #[.int .i64 W, .int .i64 H, .slice (some ⟨g, 0, none⟩) n cap] 24)).alloc (.cells #[.int .i64 W, .int .i64 H, .slice pa pn pc] 24)).alloc (.cells #[.int .i64 0, .int .i64 gm, .int .i64 ga, .int .i64 gb, .int .i64 gc, .int .i64 gd, .int .i64 gx, .int .i64 gy, .slice aL lL cL, .slice a0 l0 c0, .slice a1 l1 c1, .slice a2 l2 c2, .slice a3 l3 c3] 30)
 have sz1 : (w.alloc (.cells #[.int .i64 W, .int .i64 H, .slice (some ⟨g, 0, none⟩) n cap] 24)).heap.size = w.heap.size + 1 := by simp
 have sz2 : ((w.alloc (.cells #[.int .i64 W, .int .i64 H, .slice (some ⟨g, 0, none⟩) n cap] 24)).alloc (.cells #[.int .i64 W, .int .i64 H, .slice pa pn pc] 24)).heap.size = w.heap.size + 1 + 1 := by simp
 rw [sz1] at FP0
 rw [sz2] at BS0
 obtain ⟨u, hu⟩ : ∃ z, ((w.alloc (.cells #[.int .i64 W, .int .i64 H, .slice (some ⟨g, 0, none⟩) n cap] 24)).alloc (.cells #[.int .i64 W, .int .i64 H, .slice pa pn pc] 24)).alloc (.cells #[.int .i64 0, .int .i64 gm, .int .i64 ga, .int .i64 gb, .int .i64 gc, .int .i64 gd, .int .i64 gx, .int .i64 gy, .slice aL lL cL, .slice a0 l0 c0, .slice a1 l1 c1, .slice a2 l2 c2, .slice a3 l3 c3] 30) = z := ⟨_, rfl⟩
 rw [hu] at FB0 FP0 BS0 E0
 have HU := Lib.hid hu
 have HE0 := Lib.hid E0
 have HFI := Lib.hid hFI
 have HKF := Lib.hid (fun W' (k : Kp g u W') => FB0.kp k (show w.heap.size ≠ g by omega))
 have HKP := Lib.hid (fun W' (k : Kp g u W') => FP0.kp k (show w.heap.size + 1 ≠ g by omega))
 have HKS := Lib.hid (fun W' (k : Kp g u W') => BS0.kp k (show w.heap.size + 1 + 1 ≠ g by omega))
 have UB := Lib.hid (blk_arm (w := w) (hip.ext E0) hmp (vx := 0) (vy := 0) (by decide) hl E0.size)
 have UP := Lib.hid (fun w6 o (E6 : Ext u w6) (ho : HoF w6 (fun k => o.ownBlock = some k) (fun W2 => Ints W2 o (movL W H ps x y 0 0))) (hx : ∀ k, o.ownBlock = some k → w.heap.size ≤ k) W' (k : Ext w6 W') => fpost_arm hFI E0 (E6.trans k) (dput_8 W H x y zs (movL W H ps x y 0 0) g n cap o W' F _ (TlF.obj.ext h (E0.trans (E6.trans k))) (ho.ext k) (fun i hi hf => by have := TlF.obj.lt h i hf; have := hx i hi; omega) hm hl (mov_len _ _ _ _ _ _ _)))
 have KS : Hid (∀ w', Kp g u w' → (w'.cell? ⟨w.heap.size, 0, none⟩ = some (.int .i64 W) ∧ w'.cell? ⟨w.heap.size, 1, none⟩ = some (.int .i64 H) ∧ w'.cell? ⟨w.heap.size, 2, none⟩ = some (.slice (some ⟨g, 0, none⟩) n cap)) ∧ (w'.cell? ⟨w.heap.size + 1, 0, none⟩ = some (.int .i64 W) ∧ w'.cell? ⟨w.heap.size + 1, 1, none⟩ = some (.int .i64 H) ∧ w'.cell? ⟨w.heap.size + 1, 2, none⟩ = some (.slice pa pn pc)) ∧ Kp g u w') := fun w' k => ⟨HKF.out w' k, HKP.out w' k, k⟩
 clear h hm hl FB0 FP0 BS0 E0 sz1 sz2 hu hFI hFg hgw hmp hip
 go_enter Tryz.func35, Tryz.ntmps35
 go_wp2_with fail
 rw [HU.out]
 clear HU
 go_region_held3 (fun w' => (w'.cell? ⟨w.heap.size, 0, none⟩ = some (.int .i64 W) ∧ w'.cell? ⟨w.heap.size, 1, none⟩ = some (.int .i64 H) ∧ w'.cell? ⟨w.heap.size, 2, none⟩ = some (.slice (some ⟨g, 0, none⟩) n cap)) ∧ (w'.cell? ⟨w.heap.size + 1, 0, none⟩ = some (.int .i64 W) ∧ w'.cell? ⟨w.heap.size + 1, 1, none⟩ = some (.int .i64 H) ∧ w'.cell? ⟨w.heap.size + 1, 2, none⟩ = some (.slice pa pn pc)) ∧ Kp g u w')
  (first | assumption | (go_split_ands; exact KS.out _ (by first | assumption | exact (Kp.refl _ _).ext ((Ext.refl _).drew) | exact Kp.refl _ _)))
  ((first
    | (go_at_call 62; refine (UB.out _ (show Ext u _ from (by first | exact Ext.refl _ | exact (Ext.refl _).drew | assumption))).mono ?_; rintro e w6 ⟨o, rfl, E6, hO6, hB6⟩; have K6 : Kp g u w6 := Kp.of_ext E6; have HO6 := Lib.hid hO6; have HB6 := Lib.hid hB6; clear hO6 hB6)
    | (go_at_call 61; refine (UP.out w6 o E6 HO6.out HB6.out _ (show Ext w6 _ from (by first | exact Ext.refl _ | exact (Ext.refl _).drew | assumption))).mono ?_; rintro e w8 ⟨rfl, F', hT, st, K8⟩; have HX := Lib.hid hT; have HST := Lib.hid st; clear hT st)))
 all_goals go_wp2
 all_goals go_ret
 all_goals exact ⟨rfl, _, HX.out, HST.out⟩
set_option maxHeartbeats 4000000 in
set_option maxRecDepth 20000 in
theorem dbuild_1 (W H x y qp : Int) (zs ps : List Int) (g n cap : Nat) (pa : Option Addr) (pn pc : Nat) (gm ga gb gc gd gx gy : Int) (aL a0 a1 a2 a3 : Option Addr) (lL cL l0 c0 l1 c1 l2 c2 l3 c3 : Nat) (w : World) (F : Nat → Prop) (h : TlF w F (.slice (some ⟨g, 0, none⟩) n cap, zs)) (hm : may W H zs) (hl : lies W H x y 8) (L : List Int) (hmp : may W H ps) (hip : Ints w (.slice pa pn pc) ps) (hv : vecB gx gy = true) (hL : Ints w (.slice aL lL cL) L) (hlv : lvE L 64 = none) (hq : okQ qp) :
 Calls Tryz.prog 35 #[.agg #[.int .i64 W, .int .i64 H, .slice (some ⟨g, 0, none⟩) n cap], .agg #[.int .i64 W, .int .i64 H, .slice pa pn pc], .int .i64 x, .int .i64 y, .int .i64 qp, sqV 1 gm ga gb gc gd gx gy (.slice aL lL cL) (.slice a0 l0 c0) (.slice a1 l1 c1) (.slice a2 l2 c2) (.slice a3 l3 c3)] w
  (FPost TlF F w .nilIface (.slice (some ⟨g, 0, none⟩) n cap, putRow W zs x y 8 (addL (movL W H ps x y gx gy) L qp))) := by
 unfold sqV
 have hFI : ∀ k, F k → k = g := fun k hk => ((Option.some.inj ((h.2 k).1 hk)) : g = k).symm
 have hFg : F g := (h.2 g).2 rfl
 have hgw : g < w.heap.size := TlF.obj.lt h g hFg
 have FB0 := (FrBox.new w W H (.slice (some ⟨g, 0, none⟩) n cap)).ext (((Ext.refl _).alloc (.cells #[.int .i64 W, .int .i64 H, .slice pa pn pc] 24)).alloc (.cells #[.int .i64 1, .int .i64 gm, .int .i64 ga, .int .i64 gb, .int .i64 gc, .int .i64 gd, .int .i64 gx, .int .i64 gy, .slice aL lL cL, .slice a0 l0 c0, .slice a1 l1 c1, .slice a2 l2 c2, .slice a3 l3 c3] 30))
 have FP0 := (FrBox.new (w.alloc (.cells #[.int .i64 W, .int .i64 H, .slice (some ⟨g, 0, none⟩) n cap] 24)) W H (.slice pa pn pc)).ext ((Ext.refl _).alloc (.cells #[.int .i64 1, .int .i64 gm, .int .i64 ga, .int .i64 gb, .int .i64 gc, .int .i64 gd, .int .i64 gx, .int .i64 gy, .slice aL lL cL, .slice a0 l0 c0, .slice a1 l1 c1, .slice a2 l2 c2, .slice a3 l3 c3] 30))
 have BS0 := BoxIs.new ((w.alloc (.cells #[.int .i64 W, .int .i64 H, .slice (some ⟨g, 0, none⟩) n cap] 24)).alloc (.cells #[.int .i64 W, .int .i64 H, .slice pa pn pc] 24)) #[.int .i64 1, .int .i64 gm, .int .i64 ga, .int .i64 gb, .int .i64 gc, .int .i64 gd, .int .i64 gx, .int .i64 gy, .slice aL lL cL, .slice a0 l0 c0, .slice a1 l1 c1, .slice a2 l2 c2, .slice a3 l3 c3] 30
 have E0 := (((Ext.refl w).alloc (.cells #[.int .i64 W, .int .i64 H, .slice (some ⟨g, 0, none⟩) n cap] 24)).alloc (.cells #[.int .i64 W, .int .i64 H, .slice pa pn pc] 24)).alloc (.cells #[.int .i64 1, .int .i64 gm, .int .i64 ga, .int .i64 gb, .int .i64 gc, .int .i64 gd, .int .i64 gx, .int .i64 gy, .slice aL lL cL, .slice a0 l0 c0, .slice a1 l1 c1, .slice a2 l2 c2, .slice a3 l3 c3] 30)
 have sz1 : (w.alloc (.cells #[.int .i64 W, .int .i64 H, .slice (some ⟨g, 0, none⟩) n cap] 24)).heap.size = w.heap.size + 1 := by simp
 have sz2 : ((w.alloc (.cells #[.int .i64 W, .int .i64 H, .slice (some ⟨g, 0, none⟩) n cap] 24)).alloc (.cells #[.int .i64 W, .int .i64 H, .slice pa pn pc] 24)).heap.size = w.heap.size + 1 + 1 := by simp
 rw [sz1] at FP0
 rw [sz2] at BS0
 obtain ⟨u, hu⟩ : ∃ z, ((w.alloc (.cells #[.int .i64 W, .int .i64 H, .slice (some ⟨g, 0, none⟩) n cap] 24)).alloc (.cells #[.int .i64 W, .int .i64 H, .slice pa pn pc] 24)).alloc (.cells #[.int .i64 1, .int .i64 gm, .int .i64 ga, .int .i64 gb, .int .i64 gc, .int .i64 gd, .int .i64 gx, .int .i64 gy, .slice aL lL cL, .slice a0 l0 c0, .slice a1 l1 c1, .slice a2 l2 c2, .slice a3 l3 c3] 30) = z := ⟨_, rfl⟩
 rw [hu] at FB0 FP0 BS0 E0
 have HU := Lib.hid hu
 have HE0 := Lib.hid E0
 have HFI := Lib.hid hFI
 have HKF := Lib.hid (fun W' (k : Kp g u W') => FB0.kp k (show w.heap.size ≠ g by omega))
 have HKP := Lib.hid (fun W' (k : Kp g u W') => FP0.kp k (show w.heap.size + 1 ≠ g by omega))
 have HKS := Lib.hid (fun W' (k : Kp g u W') => BS0.kp k (show w.heap.size + 1 + 1 ≠ g by omega))
 have UB := Lib.hid (blk_arm (w := w) (hip.ext E0) hmp hv hl E0.size)
 have UP := Lib.hid (fun w6 o (E6 : Ext u w6) (ho : HoF w6 (fun k => o.ownBlock = some k) (fun W2 => Ints W2 o (movL W H ps x y gx gy))) W' (k : Ext w6 W') => fpost_arm hFI E0 (E6.trans k) (comb_8 W H x y qp zs (movL W H ps x y gx gy) L g n cap o (.slice aL lL cL) W' F (TlF.obj.ext h (E0.trans (E6.trans k))) hm hl (ho.get.ext k) (mov_len _ _ _ _ _ _ _) (mov_within hmp _ _ _ _) (hL.ext (E0.trans (E6.trans k))) hlv hq))
 have KS : Hid (∀ w', Kp g u w' → (w'.cell? ⟨w.heap.size, 0, none⟩ = some (.int .i64 W) ∧ w'.cell? ⟨w.heap.size, 1, none⟩ = some (.int .i64 H) ∧ w'.cell? ⟨w.heap.size, 2, none⟩ = some (.slice (some ⟨g, 0, none⟩) n cap)) ∧ (w'.cell? ⟨w.heap.size + 1, 0, none⟩ = some (.int .i64 W) ∧ w'.cell? ⟨w.heap.size + 1, 1, none⟩ = some (.int .i64 H) ∧ w'.cell? ⟨w.heap.size + 1, 2, none⟩ = some (.slice pa pn pc)) ∧ (w'.cell? ⟨w.heap.size + 1 + 1, 6, none⟩ = some (.int .i64 gx) ∧ w'.cell? ⟨w.heap.size + 1 + 1, 7, none⟩ = some (.int .i64 gy) ∧ w'.cell? ⟨w.heap.size + 1 + 1, 8, none⟩ = some (.slice aL lL cL)) ∧ Kp g u w') := fun w' k => ⟨HKF.out w' k, HKP.out w' k, ⟨(HKS.out w' k).cell rfl, (HKS.out w' k).cell rfl, (HKS.out w' k).cell rfl⟩, k⟩
 clear h hm hl FB0 FP0 BS0 E0 sz1 sz2 hu hFI hFg hgw hmp hip hv hL hlv hq
 go_enter Tryz.func35, Tryz.ntmps35
 go_wp2_with fail
 rw [HU.out]
 clear HU
 go_region_held3 (fun w' => (w'.cell? ⟨w.heap.size, 0, none⟩ = some (.int .i64 W) ∧ w'.cell? ⟨w.heap.size, 1, none⟩ = some (.int .i64 H) ∧ w'.cell? ⟨w.heap.size, 2, none⟩ = some (.slice (some ⟨g, 0, none⟩) n cap)) ∧ (w'.cell? ⟨w.heap.size + 1, 0, none⟩ = some (.int .i64 W) ∧ w'.cell? ⟨w.heap.size + 1, 1, none⟩ = some (.int .i64 H) ∧ w'.cell? ⟨w.heap.size + 1, 2, none⟩ = some (.slice pa pn pc)) ∧ (w'.cell? ⟨w.heap.size + 1 + 1, 6, none⟩ = some (.int .i64 gx) ∧ w'.cell? ⟨w.heap.size + 1 + 1, 7, none⟩ = some (.int .i64 gy) ∧ w'.cell? ⟨w.heap.size + 1 + 1, 8, none⟩ = some (.slice aL lL cL)) ∧ Kp g u w')
  (first | assumption | (go_split_ands; exact KS.out _ (by first | assumption | exact (Kp.refl _ _).ext ((Ext.refl _).drew) | exact Kp.refl _ _)))
  ((first
    | (go_at_call 62; refine (UB.out _ (show Ext u _ from (by first | exact Ext.refl _ | exact (Ext.refl _).drew | assumption))).mono ?_; rintro e w6 ⟨o, rfl, E6, hO6, hB6⟩; have K6 : Kp g u w6 := Kp.of_ext E6; have HO6 := Lib.hid hO6; have HB6 := Lib.hid hB6; clear hO6 hB6)
    | (go_at_call 63; refine (UP.out w6 o E6 HO6.out _ (show Ext w6 _ from (by first | exact Ext.refl _ | exact (Ext.refl _).drew | assumption))).mono ?_; rintro e w8 ⟨rfl, F', hT, st, K8⟩; have HX := Lib.hid hT; have HST := Lib.hid st; clear hT st)))
 all_goals go_wp2
 all_goals go_ret
 all_goals exact ⟨rfl, _, HX.out, HST.out⟩
set_option maxHeartbeats 4000000 in
set_option maxRecDepth 20000 in
theorem dbuild_2 (W H PW PH x y qp : Int) (zs ps : List Int) (g n cap : Nat) (pa : Option Addr) (pn pc : Nat) (gm ga gb gc gd gx gy : Int) (aL a0 a1 a2 a3 : Option Addr) (lL cL l0 c0 l1 c1 l2 c2 l3 c3 : Nat) (w : World) (F : Nat → Prop) (h : TlF w F (.slice (some ⟨g, 0, none⟩) n cap, zs)) (hm : may W H zs) (hl : lies W H x y 8) (L : List Int) (hmo : isM gm = true) (hL : Ints w (.slice aL lL cL) L) (hlv : lvE L 64 = none) (hq : okQ qp) :
 Calls Tryz.prog 35 #[.agg #[.int .i64 W, .int .i64 H, .slice (some ⟨g, 0, none⟩) n cap], .agg #[.int .i64 PW, .int .i64 PH, .slice pa pn pc], .int .i64 x, .int .i64 y, .int .i64 qp, sqV 2 gm ga gb gc gd gx gy (.slice aL lL cL) (.slice a0 l0 c0) (.slice a1 l1 c1) (.slice a2 l2 c2) (.slice a3 l3 c3)] w
  (FPost TlF F w .nilIface (.slice (some ⟨g, 0, none⟩) n cap, putI W zs x y 8 gm L qp)) := by
 unfold sqV
 have hFI : ∀ k, F k → k = g := fun k hk => ((Option.some.inj ((h.2 k).1 hk)) : g = k).symm
 have hFg : F g := (h.2 g).2 rfl
 have hgw : g < w.heap.size := TlF.obj.lt h g hFg
 have FB0 := (FrBox.new w W H (.slice (some ⟨g, 0, none⟩) n cap)).ext (((Ext.refl _).alloc (.cells #[.int .i64 PW, .int .i64 PH, .slice pa pn pc] 24)).alloc (.cells #[.int .i64 2, .int .i64 gm, .int .i64 ga, .int .i64 gb, .int .i64 gc, .int .i64 gd, .int .i64 gx, .int .i64 gy, .slice aL lL cL, .slice a0 l0 c0, .slice a1 l1 c1, .slice a2 l2 c2, .slice a3 l3 c3] 30))
 have FP0 := (FrBox.new (w.alloc (.cells #[.int .i64 W, .int .i64 H, .slice (some ⟨g, 0, none⟩) n cap] 24)) PW PH (.slice pa pn pc)).ext ((Ext.refl _).alloc (.cells #[.int .i64 2, .int .i64 gm, .int .i64 ga, .int .i64 gb, .int .i64 gc, .int .i64 gd, .int .i64 gx, .int .i64 gy, .slice aL lL cL, .slice a0 l0 c0, .slice a1 l1 c1, .slice a2 l2 c2, .slice a3 l3 c3] 30))
 have BS0 := BoxIs.new ((w.alloc (.cells #[.int .i64 W, .int .i64 H, .slice (some ⟨g, 0, none⟩) n cap] 24)).alloc (.cells #[.int .i64 PW, .int .i64 PH, .slice pa pn pc] 24)) #[.int .i64 2, .int .i64 gm, .int .i64 ga, .int .i64 gb, .int .i64 gc, .int .i64 gd, .int .i64 gx, .int .i64 gy, .slice aL lL cL, .slice a0 l0 c0, .slice a1 l1 c1, .slice a2 l2 c2, .slice a3 l3 c3] 30
 have E0 := (((Ext.refl w).alloc (.cells #[.int .i64 W, .int .i64 H, .slice (some ⟨g, 0, none⟩) n cap] 24)).alloc (.cells #[.int .i64 PW, .int .i64 PH, .slice pa pn pc] 24)).alloc (.cells #[.int .i64 2, .int .i64 gm, .int .i64 ga, .int .i64 gb, .int .i64 gc, .int .i64 gd, .int .i64 gx, .int .i64 gy, .slice aL lL cL, .slice a0 l0 c0, .slice a1 l1 c1, .slice a2 l2 c2, .slice a3 l3 c3] 30)
 have sz1 : (w.alloc (.cells #[.int .i64 W, .int .i64 H, .slice (some ⟨g, 0, none⟩) n cap] 24)).heap.size = w.heap.size + 1 := by simp
 have sz2 : ((w.alloc (.cells #[.int .i64 W, .int .i64 H, .slice (some ⟨g, 0, none⟩) n cap] 24)).alloc (.cells #[.int .i64 PW, .int .i64 PH, .slice pa pn pc] 24)).heap.size = w.heap.size + 1 + 1 := by simp
 rw [sz1] at FP0
 rw [sz2] at BS0
 obtain ⟨u, hu⟩ : ∃ z, ((w.alloc (.cells #[.int .i64 W, .int .i64 H, .slice (some ⟨g, 0, none⟩) n cap] 24)).alloc (.cells #[.int .i64 PW, .int .i64 PH, .slice pa pn pc] 24)).alloc (.cells #[.int .i64 2, .int .i64 gm, .int .i64 ga, .int .i64 gb, .int .i64 gc, .int .i64 gd, .int .i64 gx, .int .i64 gy, .slice aL lL cL, .slice a0 l0 c0, .slice a1 l1 c1, .slice a2 l2 c2, .slice a3 l3 c3] 30) = z := ⟨_, rfl⟩
 rw [hu] at FB0 FP0 BS0 E0
 have HU := Lib.hid hu
 have HE0 := Lib.hid E0
 have HFI := Lib.hid hFI
 have HKF := Lib.hid (fun W' (k : Kp g u W') => FB0.kp k (show w.heap.size ≠ g by omega))
 have HKP := Lib.hid (fun W' (k : Kp g u W') => FP0.kp k (show w.heap.size + 1 ≠ g by omega))
 have HKS := Lib.hid (fun W' (k : Kp g u W') => BS0.kp k (show w.heap.size + 1 + 1 ≠ g by omega))
 have UI := Lib.hid (fun W' (k : Ext w W') => bintra_8 W H x y qp gm zs L g n cap (.slice aL lL cL) W' F (TlF.obj.ext h k) hm hl hmo (hL.ext k) hlv hq)
 clear h hm hl FB0 FP0 BS0 E0 sz1 sz2 hu hFI hFg hgw hmo hL hlv hq
 go_enter Tryz.func35, Tryz.ntmps35
 go_wp2_with fail
 rw [HU.out]
 clear HU
 refine (UI.out _ HE0.out).mono ?_; rintro e w8 ⟨rfl, F', hT, st⟩
 have HX := Lib.hid hT
 have HST := Lib.hid ((Step.of_ext (F := F) HE0.out).trans st)
 clear hT st
 all_goals go_wp2
 all_goals go_ret
 all_goals exact ⟨rfl, _, HX.out, HST.out⟩
set_option maxHeartbeats 4000000 in
set_option maxRecDepth 20000 in
theorem dbuild_3 (W H PW PH x y qp : Int) (zs ps : List Int) (g n cap : Nat) (pa : Option Addr) (pn pc : Nat) (gm ga gb gc gd gx gy : Int) (aL a0 a1 a2 a3 : Option Addr) (lL cL l0 c0 l1 c1 l2 c2 l3 c3 : Nat) (w : World) (F : Nat → Prop) (h : TlF w F (.slice (some ⟨g, 0, none⟩) n cap, zs)) (hm : may W H zs) (hl : lies W H x y 8) (s0 s1 s2 s3 : List Int) (X : Nat → Prop) (hms : isM ga = true ∧ isM gb = true ∧ isM gc = true ∧ isM gd = true) (hx : HoF w X (fun W => Ints W (.slice a0 l0 c0) s0 ∧ Ints W (.slice a1 l1 c1) s1 ∧ Ints W (.slice a2 l2 c2) s2 ∧ Ints W (.slice a3 l3 c3) s3)) (hd : ∀ k, X k → ¬ F k) (hls : lvE s0 16 = none ∧ lvE s1 16 = none ∧ lvE s2 16 = none ∧ lvE s3 16 = none) (hq : okQ qp) :
 Calls Tryz.prog 35 #[.agg #[.int .i64 W, .int .i64 H, .slice (some ⟨g, 0, none⟩) n cap], .agg #[.int .i64 PW, .int .i64 PH, .slice pa pn pc], .int .i64 x, .int .i64 y, .int .i64 qp, sqV 3 gm ga gb gc gd gx gy (.slice aL lL cL) (.slice a0 l0 c0) (.slice a1 l1 c1) (.slice a2 l2 c2) (.slice a3 l3 c3)] w
  (FPost TlF F w .nilIface (.slice (some ⟨g, 0, none⟩) n cap, putI W (putI W (putI W (putI W zs x y 4 ga s0 qp) (x + 4) y 4 gb s1 qp) x (y + 4) 4 gc s2 qp) (x + 4) (y + 4) 4 gd s3 qp)) := by
 unfold sqV
 have hFI : ∀ k, F k → k = g := fun k hk => ((Option.some.inj ((h.2 k).1 hk)) : g = k).symm
 have hFg : F g := (h.2 g).2 rfl
 have hgw : g < w.heap.size := TlF.obj.lt h g hFg
 have FB0 := (FrBox.new w W H (.slice (some ⟨g, 0, none⟩) n cap)).ext (((Ext.refl _).alloc (.cells #[.int .i64 PW, .int .i64 PH, .slice pa pn pc] 24)).alloc (.cells #[.int .i64 3, .int .i64 gm, .int .i64 ga, .int .i64 gb, .int .i64 gc, .int .i64 gd, .int .i64 gx, .int .i64 gy, .slice aL lL cL, .slice a0 l0 c0, .slice a1 l1 c1, .slice a2 l2 c2, .slice a3 l3 c3] 30))
 have FP0 := (FrBox.new (w.alloc (.cells #[.int .i64 W, .int .i64 H, .slice (some ⟨g, 0, none⟩) n cap] 24)) PW PH (.slice pa pn pc)).ext ((Ext.refl _).alloc (.cells #[.int .i64 3, .int .i64 gm, .int .i64 ga, .int .i64 gb, .int .i64 gc, .int .i64 gd, .int .i64 gx, .int .i64 gy, .slice aL lL cL, .slice a0 l0 c0, .slice a1 l1 c1, .slice a2 l2 c2, .slice a3 l3 c3] 30))
 have BS0 := BoxIs.new ((w.alloc (.cells #[.int .i64 W, .int .i64 H, .slice (some ⟨g, 0, none⟩) n cap] 24)).alloc (.cells #[.int .i64 PW, .int .i64 PH, .slice pa pn pc] 24)) #[.int .i64 3, .int .i64 gm, .int .i64 ga, .int .i64 gb, .int .i64 gc, .int .i64 gd, .int .i64 gx, .int .i64 gy, .slice aL lL cL, .slice a0 l0 c0, .slice a1 l1 c1, .slice a2 l2 c2, .slice a3 l3 c3] 30
 have E0 := (((Ext.refl w).alloc (.cells #[.int .i64 W, .int .i64 H, .slice (some ⟨g, 0, none⟩) n cap] 24)).alloc (.cells #[.int .i64 PW, .int .i64 PH, .slice pa pn pc] 24)).alloc (.cells #[.int .i64 3, .int .i64 gm, .int .i64 ga, .int .i64 gb, .int .i64 gc, .int .i64 gd, .int .i64 gx, .int .i64 gy, .slice aL lL cL, .slice a0 l0 c0, .slice a1 l1 c1, .slice a2 l2 c2, .slice a3 l3 c3] 30)
 have sz1 : (w.alloc (.cells #[.int .i64 W, .int .i64 H, .slice (some ⟨g, 0, none⟩) n cap] 24)).heap.size = w.heap.size + 1 := by simp
 have sz2 : ((w.alloc (.cells #[.int .i64 W, .int .i64 H, .slice (some ⟨g, 0, none⟩) n cap] 24)).alloc (.cells #[.int .i64 PW, .int .i64 PH, .slice pa pn pc] 24)).heap.size = w.heap.size + 1 + 1 := by simp
 rw [sz1] at FP0
 rw [sz2] at BS0
 obtain ⟨u, hu⟩ : ∃ z, ((w.alloc (.cells #[.int .i64 W, .int .i64 H, .slice (some ⟨g, 0, none⟩) n cap] 24)).alloc (.cells #[.int .i64 PW, .int .i64 PH, .slice pa pn pc] 24)).alloc (.cells #[.int .i64 3, .int .i64 gm, .int .i64 ga, .int .i64 gb, .int .i64 gc, .int .i64 gd, .int .i64 gx, .int .i64 gy, .slice aL lL cL, .slice a0 l0 c0, .slice a1 l1 c1, .slice a2 l2 c2, .slice a3 l3 c3] 30) = z := ⟨_, rfl⟩
 rw [hu] at FB0 FP0 BS0 E0
 have HU := Lib.hid hu
 have HE0 := Lib.hid E0
 have HFI := Lib.hid hFI
 have HKF := Lib.hid (fun W' (k : Kp g u W') => FB0.kp k (show w.heap.size ≠ g by omega))
 have HKP := Lib.hid (fun W' (k : Kp g u W') => FP0.kp k (show w.heap.size + 1 ≠ g by omega))
 have HKS := Lib.hid (fun W' (k : Kp g u W') => BS0.kp k (show w.heap.size + 1 + 1 ≠ g by omega))
 obtain ⟨m0, m1, m2, m3⟩ := hms
 obtain ⟨v0, v1, v2, v3⟩ := hls
 obtain ⟨k0, k1, k2, k3⟩ := lies4 hl
 have hw := sideB_true hm.1
 have hh := sideB_true hm.2.1
 have hll := hl
 unfold lies at hll
 have HI : ∀ W', Kp g w W' → Ints W' (.slice a0 l0 c0) s0 ∧ Ints W' (.slice a1 l1 c1) s1 ∧ Ints W' (.slice a2 l2 c2) s2 ∧ Ints W' (.slice a3 l3 c3) s3 := fun W' k => (ho_kp hx hd hFg k).get
 have KE : Kp g w u := Kp.of_ext E0
 obtain ⟨z1, hz1⟩ : ∃ z, putI W zs x y 4 ga s0 qp = z := ⟨_, rfl⟩
 have mm1 : may W H z1 := hz1 ▸ puti_may hm (.inl rfl) k0
 obtain ⟨z2, hz2⟩ : ∃ z, putI W z1 (x + 4) y 4 gb s1 qp = z := ⟨_, rfl⟩
 have mm2 : may W H z2 := hz2 ▸ puti_may mm1 (.inl rfl) k1
 obtain ⟨z3, hz3⟩ : ∃ z, putI W z2 x (y + 4) 4 gc s2 qp = z := ⟨_, rfl⟩
 have mm3 : may W H z3 := hz3 ▸ puti_may mm2 (.inl rfl) k2
 have UI0 := Lib.hid (fun v0' G (h : TlF v0' G (.slice (some ⟨g, 0, none⟩) n cap, zs)) (kk : Kp g u v0') (st : Step F w G v0') (hG : ∀ k, G k → k = g) W' (k : Ext v0' W') => intra_arm kk st hG k (bintra_4 W H x y qp ga zs s0 g n cap (.slice a0 l0 c0) W' G (TlF.obj.ext h k) hm k0 m0 (HI W' (KE.trans (kk.ext k))).1 v0 hq))
 have UI1 := Lib.hid (fun v0' G (h : TlF v0' G (.slice (some ⟨g, 0, none⟩) n cap, z1)) (kk : Kp g u v0') (st : Step F w G v0') (hG : ∀ k, G k → k = g) W' (k : Ext v0' W') => intra_arm kk st hG k (bintra_4 W H (x + 4) y qp gb z1 s1 g n cap (.slice a1 l1 c1) W' G (TlF.obj.ext h k) mm1 k1 m1 (HI W' (KE.trans (kk.ext k))).2.1 v1 hq))
 have UI2 := Lib.hid (fun v0' G (h : TlF v0' G (.slice (some ⟨g, 0, none⟩) n cap, z2)) (kk : Kp g u v0') (st : Step F w G v0') (hG : ∀ k, G k → k = g) W' (k : Ext v0' W') => intra_arm kk st hG k (bintra_4 W H x (y + 4) qp gc z2 s2 g n cap (.slice a2 l2 c2) W' G (TlF.obj.ext h k) mm2 k2 m2 (HI W' (KE.trans (kk.ext k))).2.2.1 v2 hq))
 have UI3 := Lib.hid (fun v0' G (h : TlF v0' G (.slice (some ⟨g, 0, none⟩) n cap, z3)) (kk : Kp g u v0') (st : Step F w G v0') (hG : ∀ k, G k → k = g) W' (k : Ext v0' W') => intra_arm kk st hG k (bintra_4 W H (x + 4) (y + 4) qp gd z3 s3 g n cap (.slice a3 l3 c3) W' G (TlF.obj.ext h k) mm3 k3 m3 (HI W' (KE.trans (kk.ext k))).2.2.2 v3 hq))
 rw [hz1] at UI0 ⊢
 rw [hz2] at UI1 ⊢
 rw [hz3] at UI2 ⊢
 have ix0 : ∀ w : World, (Instr.index 28 (.agg #[.slice a0 l0 c0, .slice a1 l1 c1, .slice a2 l2 c2, .slice a3 l3 c3]) (.int .i64 0)).run Tryz.prog w = .ok (.slice a0 l0 c0) w := fun _ => by kernel_rfl
 have ix1 : ∀ w : World, (Instr.index 28 (.agg #[.slice a0 l0 c0, .slice a1 l1 c1, .slice a2 l2 c2, .slice a3 l3 c3]) (.int .i64 1)).run Tryz.prog w = .ok (.slice a1 l1 c1) w := fun _ => by kernel_rfl
 have ix2 : ∀ w : World, (Instr.index 28 (.agg #[.slice a0 l0 c0, .slice a1 l1 c1, .slice a2 l2 c2, .slice a3 l3 c3]) (.int .i64 2)).run Tryz.prog w = .ok (.slice a2 l2 c2) w := fun _ => by kernel_rfl
 have ix3 : ∀ w : World, (Instr.index 28 (.agg #[.slice a0 l0 c0, .slice a1 l1 c1, .slice a2 l2 c2, .slice a3 l3 c3]) (.int .i64 3)).run Tryz.prog w = .ok (.slice a3 l3 c3) w := fun _ => by kernel_rfl
 have e5 : IntKind.i64.wrap 0 = 0 := by decide
 have e6 : IntKind.i64.wrap 1 = 1 := by decide
 have e7 : IntKind.i64.wrap 4 = 4 := by decide
 have e1 : IntKind.i64.wrap x = x := by rw [IntKind.wrap_i64]; omega
 have e2 : IntKind.i64.wrap y = y := by rw [IntKind.wrap_i64]; omega
 have e3 : IntKind.i64.wrap (x + 4) = x + 4 := by rw [IntKind.wrap_i64]; omega
 have e4 : IntKind.i64.wrap (y + 4) = y + 4 := by rw [IntKind.wrap_i64]; omega
 have HT0 := Lib.hid (TlF.obj.ext h E0)
 have HST0 : Hid (Step F w F u) := Step.of_ext E0
 have K0 : Hid (Kp g u u) := Kp.refl g u
 have HF0 : Hid (∀ k, F k → k = g) := HFI.out
 obtain ⟨⟨c0', c1', c2', c3', c4', c5', c6', c7', c8', c9', c10', c11', c12'⟩, -⟩ := sq_cells BS0
 clear hz1 hz2 hz3 m0 m1 m2 m3 v0 v1 v2 v3 k0 k1 k2 k3 hw hh hll hx hd hq mm1 mm2 mm3 HI KE
 clear h hm hl FB0 FP0 BS0 E0 sz1 sz2 hu hFI hFg hgw
 go_enter Tryz.func35, Tryz.ntmps35
 go_wp2_with fail
 rw [HU.out]
 clear HU
 refine wp_loop_rounds 5 ?_
 clear c0' c1' c2' c3' c4' c5' c6' c7' c8' c9' c10' c11' c12'
 rw [rounds_succ]
 obtain ⟨p0, p1, p2⟩ := HKF.out _ K0.out
 have pm := (HKS.out _ K0.out).cell (i := 2) (v := .int .i64 ga) rfl
 have KS : Hid (∀ w', Kp g u w' → (w'.cell? ⟨w.heap.size, 0, none⟩ = some (.int .i64 W) ∧ w'.cell? ⟨w.heap.size, 1, none⟩ = some (.int .i64 H) ∧ w'.cell? ⟨w.heap.size, 2, none⟩ = some (.slice (some ⟨g, 0, none⟩) n cap)) ∧ w'.cell? ⟨w.heap.size + 1 + 1, 2, none⟩ = some (.int .i64 ga) ∧ Kp g u w') := fun w' k => ⟨HKF.out w' k, (HKS.out w' k).cell rfl, k⟩
 have KI := K0.out
 go_wp2_with fail
 go_region_held3 (fun w' => (w'.cell? ⟨w.heap.size, 0, none⟩ = some (.int .i64 W) ∧ w'.cell? ⟨w.heap.size, 1, none⟩ = some (.int .i64 H) ∧ w'.cell? ⟨w.heap.size, 2, none⟩ = some (.slice (some ⟨g, 0, none⟩) n cap)) ∧ w'.cell? ⟨w.heap.size + 1 + 1, 2, none⟩ = some (.int .i64 ga) ∧ Kp g u w')
  (first | assumption | (go_split_ands; exact KS.out _ (by first | assumption | exact KI.ext ((Ext.refl _).drew) | exact KI)))
  ((go_at_call 64; refine (UI0.out u F HT0.out KI HST0.out HF0.out _ (show Ext u _ from (by first | exact Ext.refl _ | exact (Ext.refl _).drew | assumption))).mono ?_; rintro e w1 ⟨rfl, F1, hT, st, K9, hf⟩; have HT1 := Lib.hid hT; have HST1 := Lib.hid st; have K1 := Lib.hid K9; have HF1 := Lib.hid hf; clear hT st hf))
 clear p0 p1 p2 pm KS KI UI0 HT0 HST0 K0 HF0
 (try clear K9)
 go_wp2_with fail
 rw [rounds_succ]
 obtain ⟨p0, p1, p2⟩ := HKF.out _ K1.out
 have pm := (HKS.out _ K1.out).cell (i := 3) (v := .int .i64 gb) rfl
 have KS : Hid (∀ w', Kp g u w' → (w'.cell? ⟨w.heap.size, 0, none⟩ = some (.int .i64 W) ∧ w'.cell? ⟨w.heap.size, 1, none⟩ = some (.int .i64 H) ∧ w'.cell? ⟨w.heap.size, 2, none⟩ = some (.slice (some ⟨g, 0, none⟩) n cap)) ∧ w'.cell? ⟨w.heap.size + 1 + 1, 3, none⟩ = some (.int .i64 gb) ∧ Kp g u w') := fun w' k => ⟨HKF.out w' k, (HKS.out w' k).cell rfl, k⟩
 have KI := K1.out
 go_wp2_with fail
 go_region_held3 (fun w' => (w'.cell? ⟨w.heap.size, 0, none⟩ = some (.int .i64 W) ∧ w'.cell? ⟨w.heap.size, 1, none⟩ = some (.int .i64 H) ∧ w'.cell? ⟨w.heap.size, 2, none⟩ = some (.slice (some ⟨g, 0, none⟩) n cap)) ∧ w'.cell? ⟨w.heap.size + 1 + 1, 3, none⟩ = some (.int .i64 gb) ∧ Kp g u w')
  (first | assumption | (go_split_ands; exact KS.out _ (by first | assumption | exact KI.ext ((Ext.refl _).drew) | exact KI)))
  ((go_at_call 64; refine (UI1.out w1 F1 HT1.out KI HST1.out HF1.out _ (show Ext w1 _ from (by first | exact Ext.refl _ | exact (Ext.refl _).drew | assumption))).mono ?_; rintro e w2 ⟨rfl, F2, hT, st, K9, hf⟩; have HT2 := Lib.hid hT; have HST2 := Lib.hid st; have K2 := Lib.hid K9; have HF2 := Lib.hid hf; clear hT st hf))
 clear p0 p1 p2 pm KS KI UI1 HT1 HST1 K1 HF1
 (try clear K9)
 go_wp2_with fail
 rw [rounds_succ]
 obtain ⟨p0, p1, p2⟩ := HKF.out _ K2.out
 have pm := (HKS.out _ K2.out).cell (i := 4) (v := .int .i64 gc) rfl
 have KS : Hid (∀ w', Kp g u w' → (w'.cell? ⟨w.heap.size, 0, none⟩ = some (.int .i64 W) ∧ w'.cell? ⟨w.heap.size, 1, none⟩ = some (.int .i64 H) ∧ w'.cell? ⟨w.heap.size, 2, none⟩ = some (.slice (some ⟨g, 0, none⟩) n cap)) ∧ w'.cell? ⟨w.heap.size + 1 + 1, 4, none⟩ = some (.int .i64 gc) ∧ Kp g u w') := fun w' k => ⟨HKF.out w' k, (HKS.out w' k).cell rfl, k⟩
 have KI := K2.out
 go_wp2_with fail
 go_region_held3 (fun w' => (w'.cell? ⟨w.heap.size, 0, none⟩ = some (.int .i64 W) ∧ w'.cell? ⟨w.heap.size, 1, none⟩ = some (.int .i64 H) ∧ w'.cell? ⟨w.heap.size, 2, none⟩ = some (.slice (some ⟨g, 0, none⟩) n cap)) ∧ w'.cell? ⟨w.heap.size + 1 + 1, 4, none⟩ = some (.int .i64 gc) ∧ Kp g u w')
  (first | assumption | (go_split_ands; exact KS.out _ (by first | assumption | exact KI.ext ((Ext.refl _).drew) | exact KI)))
  ((go_at_call 64; refine (UI2.out w2 F2 HT2.out KI HST2.out HF2.out _ (show Ext w2 _ from (by first | exact Ext.refl _ | exact (Ext.refl _).drew | assumption))).mono ?_; rintro e w3 ⟨rfl, F3, hT, st, K9, hf⟩; have HT3 := Lib.hid hT; have HST3 := Lib.hid st; have K3 := Lib.hid K9; have HF3 := Lib.hid hf; clear hT st hf))
 clear p0 p1 p2 pm KS KI UI2 HT2 HST2 K2 HF2
 (try clear K9)
 go_wp2_with fail
 rw [rounds_succ]
 obtain ⟨p0, p1, p2⟩ := HKF.out _ K3.out
 have pm := (HKS.out _ K3.out).cell (i := 5) (v := .int .i64 gd) rfl
 have KS : Hid (∀ w', Kp g u w' → (w'.cell? ⟨w.heap.size, 0, none⟩ = some (.int .i64 W) ∧ w'.cell? ⟨w.heap.size, 1, none⟩ = some (.int .i64 H) ∧ w'.cell? ⟨w.heap.size, 2, none⟩ = some (.slice (some ⟨g, 0, none⟩) n cap)) ∧ w'.cell? ⟨w.heap.size + 1 + 1, 5, none⟩ = some (.int .i64 gd) ∧ Kp g u w') := fun w' k => ⟨HKF.out w' k, (HKS.out w' k).cell rfl, k⟩
 have KI := K3.out
 go_wp2_with fail
 go_region_held3 (fun w' => (w'.cell? ⟨w.heap.size, 0, none⟩ = some (.int .i64 W) ∧ w'.cell? ⟨w.heap.size, 1, none⟩ = some (.int .i64 H) ∧ w'.cell? ⟨w.heap.size, 2, none⟩ = some (.slice (some ⟨g, 0, none⟩) n cap)) ∧ w'.cell? ⟨w.heap.size + 1 + 1, 5, none⟩ = some (.int .i64 gd) ∧ Kp g u w')
  (first | assumption | (go_split_ands; exact KS.out _ (by first | assumption | exact KI.ext ((Ext.refl _).drew) | exact KI)))
  ((go_at_call 64; refine (UI3.out w3 F3 HT3.out KI HST3.out HF3.out _ (show Ext w3 _ from (by first | exact Ext.refl _ | exact (Ext.refl _).drew | assumption))).mono ?_; rintro e w4 ⟨rfl, F4, hT, st, K9, hf⟩; have HT4 := Lib.hid hT; have HST4 := Lib.hid st; have K4 := Lib.hid K9; have HF4 := Lib.hid hf; clear hT st hf))
 clear p0 p1 p2 pm KS KI UI3 HT3 HST3 K3 HF3
 (try clear K9)
 go_wp2_with fail
 rw [rounds_succ]
 have HX := HT4
 have HST := HST4
 clear K4 HF4 HKF HKP HKS HFI HE0
 go_wp2
 go_ret
 exact ⟨rfl, _, HX.out, HST.out⟩
theorem okq_iff {qp : Int} (h : 0 ≤ qp ∧ qp ≤ 15) : okQ qp := by unfold okQ; omega
theorem dbuild_any (W H PW PH x y qp : Int) (zs ps : List Int) (g n cap : Nat) (pa : Option Addr) (pn pc : Nat) (q : Sq) (vL v0 v1 v2 v3 : Value) (X : Nat → Prop) (w : World) (F : Nat → Prop) (h : TlF w F (.slice (some ⟨g, 0, none⟩) n cap, zs)) (hm : may W H zs) (hl : lies W H x y 8) (hk : 0 ≤ q.k ∧ q.k ≤ 3) (hpt : ptB q = true) (hli : liE q = none) (hq : 0 ≤ qp ∧ qp ≤ 15) (hx : HoF w X (fun W => SqIs W q vL v0 v1 v2 v3)) (hd : ∀ k, X k → ¬ F k) (hp : q.k < 2 → PW = W ∧ PH = H ∧ may W H ps ∧ Ints w (.slice pa pn pc) ps) :
 Calls Tryz.prog 35 #[.agg #[.int .i64 W, .int .i64 H, .slice (some ⟨g, 0, none⟩) n cap], .agg #[.int .i64 PW, .int .i64 PH, .slice pa pn pc], .int .i64 x, .int .i64 y, .int .i64 qp, sqQ q vL v0 v1 v2 v3] w
  (FPost TlF F w .nilIface (.slice (some ⟨g, 0, none⟩) n cap, bld W H zs ps x y qp q)) := by
 obtain ⟨hL, h0, h1, h2, h3⟩ := hx.get
 obtain ⟨aL, lL, cL, rfl⟩ := hL.slf
 obtain ⟨a0, l0, c0, rfl⟩ := h0.slf
 obtain ⟨a1, l1, c1, rfl⟩ := h1.slf
 obtain ⟨a2, l2, c2, rfl⟩ := h2.slf
 obtain ⟨a3, l3, c3, rfl⟩ := h3.slf
 have hqq := okq_iff hq
 obtain ⟨k, m, a, b, c, d, gx, gy, L, s0, s1, s2, s3⟩ := q
 unfold sqQ
 dsimp only at *
 rcases (by omega : k = 0 ∨ k = 1 ∨ k = 2 ∨ k = 3) with rfl | rfl | rfl | rfl
 · obtain ⟨rfl, rfl, hmp, hip⟩ := hp (by decide)
   exact dbuild_0 _ _ x y qp zs ps g n cap pa pn pc m a b c d gx gy aL a0 a1 a2 a3 lL cL l0 c0 l1 c1 l2 c2 l3 c3 w F h hm hl hmp hip
 · obtain ⟨rfl, rfl, hmp, hip⟩ := hp (by decide)
   have hv : vecB gx gy = true := by
    have h9 : (isV gx && isV gy) = true := hpt
    simp [isV] at h9
    simp [vecB]
    omega
   exact dbuild_1 _ _ x y qp zs ps g n cap pa pn pc m a b c d gx gy aL a0 a1 a2 a3 lL cL l0 c0 l1 c1 l2 c2 l3 c3 w F h hm hl L hmp hip hv hL hli hqq
 · exact dbuild_2 W H PW PH x y qp zs ps g n cap pa pn pc m a b c d gx gy aL a0 a1 a2 a3 lL cL l0 c0 l1 c1 l2 c2 l3 c3 w F h hm hl L hpt hL hli hqq
 · have hms : isM a = true ∧ isM b = true ∧ isM c = true ∧ isM d = true := by
    have h9 : (isM a && isM b && isM c && isM d) = true := hpt
    simp only [Bool.and_eq_true] at h9
    exact ⟨h9.1.1.1, h9.1.1.2, h9.1.2, h9.2⟩
   have hli2 : orF (lvE s0 16) (orF (lvE s1 16) (orF (lvE s2 16) (lvE s3 16))) = none := hli
   obtain ⟨e0, hli2⟩ := orF_none hli2
   obtain ⟨e1, hli2⟩ := orF_none hli2
   obtain ⟨e2, e3⟩ := orF_none hli2
   exact dbuild_3 W H PW PH x y qp zs ps g n cap pa pn pc m a b c d gx gy aL a0 a1 a2 a3 lL cL l0 c0 l1 c1 l2 c2 l3 c3 w F h hm hl s0 s1 s2 s3 X hms (hx.imp (fun W h => h.2)) hd ⟨e0, e1, e2, e3⟩ hqq
end Go.Proofs.YtcekpngkfldgkaaGreatDoor