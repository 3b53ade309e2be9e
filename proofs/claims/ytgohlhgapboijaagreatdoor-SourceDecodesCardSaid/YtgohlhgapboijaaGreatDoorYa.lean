/- Contracts of this seat: Rdc. -/
import Derived.Test.YtgohlhgapboijaaGreatDoorZy
import Derived.Test.YtgohlhgapboijaaGreatDoorZq
import Derived.Deep.DeepCutAuto
import Derived.Deep.RegionHeld3
import Derived.Deep.RegionWith
/- kinref15.Decode: a draft. -/
namespace Go.Proofs.YtgohlhgapboijaaGreatDoor
set_option linter.unusedVariables false
set_option linter.unusedSimpArgs false
open Go.RowKit Go.Extern.Stop Go.Stop Go.Extern

def FzO : Obj := .cells #[.int .i64 0, .int .i64 0, .slice none 0 0] 48
def EzO : Obj := .cells #[.int .i64 0, .slice none 0 0] 34
/-- what kinref15.Decode answers -/
def RDcPost (w : World) (R : Fall × List Fr) (e : Ending) (w' : World) : Prop := ∃ lv c u, e = .returned (.tuple #[lv, .agg #[.int .i64 c, u]]) ∧ Ext w w' ∧ RErrIs w' R.1 c u ∧ Fms w' lv R.2
/-- the state of the loop -/
def RdAtQ (w0 wr : World) (B b B0 : Nat) (bs : List Nat) (k : Nat) (L : List Fr) (S : Nat → Value) (lv : Value) (p : Nat) : Prop :=
  (RqAt wr b bs p B0 ∧ p ≤ 8 * bs.length) ∧ wr.ownsRow B 48 3 lv k (fcells L S k) ∧ CopOk wr B L S k lv ∧ L.length = k ∧ Ext w0 wr ∧ B ≤ wr.heap.size ∧ RBox wr w0.heap.size
theorem RdAtQ.kp {w0 wr w' : World} {B b B0 k p q : Nat} {bs : List Nat} {L : List Fr} {S : Nat → Value} {lv : Value} (h : RdAtQ w0 wr B b B0 bs k L S lv p) (kp : Kp b wr w') (hr : RqAt w' b bs q B0) (hq : q ≤ 8 * bs.length) (hb : w0.heap.size < b) (hbB : b < B) : RdAtQ w0 w' B b B0 bs k L S lv q := by
  obtain ⟨-, h2, h3, h4, h5, h6, h7⟩ := h
  refine ⟨⟨hr, hq⟩, own_kp h2 kp (fun g hg => by have := (h2.lt g hg).1; omega), fun i hi => ?_, h4, Kp.out h5 kp (Nat.le_of_lt hb), Nat.le_trans h6 kp.size, h7.kp kp (by omega)⟩
  obtain ⟨o1, o2⟩ := h3 i hi
  exact ⟨own_kp o1 kp (fun g hg => by have := (o1.lt g hg).1; omega), o2⟩
theorem RdAtQ.ext {w0 wr w' : World} {B b B0 k p : Nat} {bs : List Nat} {L : List Fr} {S : Nat → Value} {lv : Value} (h : RdAtQ w0 wr B b B0 bs k L S lv p) (x : Ext wr w') (hb : w0.heap.size < b) (hbB : b < B) : RdAtQ w0 w' B b B0 bs k L S lv p :=
  h.kp (Kp.of_ext x) (h.1.1.ext x) h.1.2 hb hbB
theorem RqAt.grown15 {w w' : World} {b B p B0 : Nat} {bs : List Nat} {t : TypeId} {s n : Nat} {v : Value} {xs : List Value} (h : RqAt w b bs p B0) (o : w.ownsRow B t s v n xs) (g : w.grownBy w' v.ownBlock) (hb : b < B) : RqAt w' b bs p B0 :=
  h.mono (fun i hi => World.grownBy.block g i (by have := h.lt; have := h.base; omega) (fun e => by have := (o.lt i e.symm).1; have := h.base; omega)) (World.grownBy.block g b h.lt (fun e => by have := (o.lt b e.symm).1; omega))
theorem RdAtQ.push {w0 wr w' : World} {B b B0 k p : Nat} {bs : List Nat} {L : List Fr} {S : Nat → Value} {lv lv' u : Value} {f : Fr} (h : RdAtQ w0 wr B b B0 bs k L S lv p) (hb : b < B) (hB : w0.heap.size < B)
    (hu : wr.ownsRow B 3 1 u f.2.2.length (f.2.2.map (Value.int .i64))) (ha : Apart lv u)
    (h1 : w'.ownsRow B 48 3 lv' (k + 1) (fcells L S k ++ [.int .i64 f.1, .int .i64 f.2.1, u])) (h2 : wr.grownBy w' lv.ownBlock) (h3 : lv'.ownBlock = lv.ownBlock ∨ lv'.ownBlock = some (wr.heap.size + 1)) :
    RdAtQ w0 w' B b B0 bs (k + 1) (L ++ [f]) (fun q => if q = k then u else S q) lv' p := by
  obtain ⟨⟨r1, r2⟩, o2, o3, rfl, o5, o6, o7⟩ := h
  have hl := frD_last L f
  refine ⟨⟨r1.grown15 o2 h2 hb, r2⟩, ?_, fun q hq => ?_, by simp, Below.grown o5 h2 o5.size (fun k hk => Nat.le_trans (Nat.le_of_lt hB) (o2.lt k hk).1), Nat.le_trans o6 (World.grownBy.size h2), ?_⟩
  · rw [fcells_succ, hl, fcells_congr2 (M := L) (T := S) (fun q hq => ⟨frD_left hq, if_neg (by omega)⟩), if_pos rfl]
    exact h1
  · by_cases hqk : q = L.length
    · subst hqk
      simp only [if_true]
      rw [hl]
      exact push_two hu ha h2 h3
    · simp only [if_neg hqk]
      rw [frD_left (by omega)]
      obtain ⟨x1, x2⟩ := o3 q (by omega)
      exact push_two x1 x2 h2 h3
  · exact (World.grownBy.block h2 w0.heap.size o7.lt (fun e => by have := (o2.lt _ e.symm).1; omega)).trans o7
theorem RdAtQ.fms {w0 wr w' : World} {B b B0 k p : Nat} {bs : List Nat} {L : List Fr} {S : Nat → Value} {lv : Value} (h : RdAtQ w0 wr B b B0 bs k L S lv p) {d : Nat} (kp : Kp d wr w') (hd : d < B) : Fms w' lv L := by
  obtain ⟨-, h2, h3, h4, -⟩ := h
  refine fms_of_own (own_kp h2 kp (fun g hg => by have := (h2.lt g hg).1; omega)) (fun i hi => ?_) h4
  obtain ⟨o1, o2⟩ := h3 i hi
  exact ⟨own_kp o1 kp (fun g hg => by have := (o1.lt g hg).1; omega), o2⟩
/-- a frame and an error that were read lie in boxes -/
def GotQ (wr wx : World) (b B0 : Nat) (bs : List Nat) (q DF DE W H : Nat) (f : Fall) (zs : List Int) : Prop := ∃ x y sa sn sk c ea en ek,
  ((wx.cell? ⟨DF, 0, none⟩ = some (.int .i64 x) ∧ wx.cell? ⟨DF, 1, none⟩ = some (.int .i64 y) ∧ wx.cell? ⟨DF, 2, none⟩ = some (.slice sa sn sk)) ∧ wx.cell? ⟨DE, 0, none⟩ = some (.int .i64 c) ∧ wx.cell? ⟨DE, 1, none⟩ = some (.slice ea en ek)) ∧
    Kp b wr wx ∧ RqAt wx b bs q B0 ∧ RErrIs wx f c (.slice ea en ek) ∧ (f = none → x = (W : Int) ∧ y = (H : Int) ∧ wx.ownsRow wr.heap.size 3 1 (.slice sa sn sk) (W * H) (zs.map (Value.int .i64)))
theorem gq_set {wr wz : World} {b B0 q RF RE W H : Nat} {bs : List Nat} {f : Fall} {zs : List Int} {x y c : Int} {sa : Option Addr} {sn sk : Nat} {ea : Option Addr} {en ek : Nat} (hbF : BoxIs wz RF fz 48) (hbE : RBox wz RE) (hne : RF ≠ RE) (hk : Kp b wr wz) (hr : RqAt wz b bs q B0) (he : RErrIs wz f c (.slice ea en ek)) (hF : wr.heap.size ≤ RF) (hE : wr.heap.size ≤ RE) (hb : b < wr.heap.size)
    (hg : f = none → x = (W : Int) ∧ y = (H : Int) ∧ wz.ownsRow wr.heap.size 3 1 (.slice sa sn sk) (W * H) (zs.map (Value.int .i64))) :
    GotQ wr (((((wz.setCell ⟨RF, 0, none⟩ (.int .i64 x)).setCell ⟨RF, 1, none⟩ (.int .i64 y)).setCell ⟨RF, 2, none⟩ (.slice sa sn sk)).setCell ⟨RE, 0, none⟩ (.int .i64 c)).setCell ⟨RE, 1, none⟩ (.slice ea en ek)) b B0 bs q RF RE W H f zs := by
  have hb0 := hr.base
  have k1 := setRF_kp (wz := wz) (R := RF) x y (.slice sa sn sk)
  have hB1 : RBox (((wz.setCell ⟨RF, 0, none⟩ (.int .i64 x)).setCell ⟨RF, 1, none⟩ (.int .i64 y)).setCell ⟨RF, 2, none⟩ (.slice sa sn sk)) RE := hbE.kp k1 (by omega)
  have hFb : BoxIs (((wz.setCell ⟨RF, 0, none⟩ (.int .i64 x)).setCell ⟨RF, 1, none⟩ (.int .i64 y)).setCell ⟨RF, 2, none⟩ (.slice sa sn sk)) RF #[.int .i64 x, .int .i64 y, .slice sa sn sk] 48 := ((hbF.set (i := 0) (.int .i64 x)).set (i := 1) (.int .i64 y)).set (i := 2) (.slice sa sn sk)
  have hE1 := rerr_kp he hbF (fun i t => by rcases i with _ | _ | _ | i <;> simp) k1
  have hE2 := hE1.box hB1 (.int .i64 c) (.slice ea en ek)
  have hK2 := ((((hk.fresh hF 0 (.int .i64 x)).fresh hF 1 (.int .i64 y)).fresh hF 2 (.slice sa sn sk)).fresh hE 0 (.int .i64 c)).fresh hE 1 (.slice ea en ek)
  have hQ := hr.kp k1 (by omega) (by omega)
  have hQ2 := (hQ.fresh (R := RE) (by omega) (by omega) 0 (.int .i64 c)).fresh (R := RE) (by omega) (by omega) 1 (.slice ea en ek)
  have hG : f = none → x = (W : Int) ∧ y = (H : Int) ∧ (((wz.setCell ⟨RF, 0, none⟩ (.int .i64 x)).setCell ⟨RF, 1, none⟩ (.int .i64 y)).setCell ⟨RF, 2, none⟩ (.slice sa sn sk)).ownsRow wr.heap.size 3 1 (.slice sa sn sk) (W * H) (zs.map (Value.int .i64)) := fun hf => by
    obtain ⟨g1, g2, g3⟩ := hg hf
    exact ⟨g1, g2, own_kp g3 k1 (fun d hd => fun e => hbF.apart g3 (by decide) (by rw [hd, e]))⟩
  generalize ((wz.setCell ⟨RF, 0, none⟩ (.int .i64 x)).setCell ⟨RF, 1, none⟩ (.int .i64 y)).setCell ⟨RF, 2, none⟩ (.slice sa sn sk) = w3 at *
  have kS : Kp RE w3 ((w3.setCell ⟨RE, 0, none⟩ (.int .i64 c)).setCell ⟨RE, 1, none⟩ (.slice ea en ek)) := ((Kp.refl RE w3).set 0 _).set 1 _
  have hF2 := hFb.kp kS hne
  obtain ⟨g0, g1, -, -⟩ := hB1.res
  obtain ⟨y0, y1⟩ := res_cells g0 g1 (c := c) (.slice ea en ek)
  exact ⟨x, y, sa, sn, sk, c, ea, en, ek, ⟨⟨hF2.cell rfl, hF2.cell rfl, hF2.cell rfl⟩, y0, y1⟩, hK2, hQ2, hE2, fun hf => by
    obtain ⟨g1, g2, g3⟩ := hG hf
    exact ⟨g1, g2, own_kp g3 kS (fun d hd => fun e => BoxIs.apart (show BoxIs w3 RE _ _ from hB1) g3 (by decide) (by rw [hd, e]))⟩⟩
theorem gq_setE {wr wz : World} {b B0 q RF RE W H : Nat} {bs : List Nat} {f : Fall} {zs : List Int} {x y c : Int} {sa : Option Addr} {sn sk : Nat} {ea : Option Addr} {en ek : Nat} (hbF : BoxIs wz RF #[.int .i64 x, .int .i64 y, .slice sa sn sk] 48) (hbE : RBox wz RE) (hne : RF ≠ RE) (hk : Kp b wr wz) (hr : RqAt wz b bs q B0) (he : RErrIs wz f c (.slice ea en ek)) (hE : wr.heap.size ≤ RE) (hb : b < wr.heap.size)
    (hg : f = none → x = (W : Int) ∧ y = (H : Int) ∧ wz.ownsRow wr.heap.size 3 1 (.slice sa sn sk) (W * H) (zs.map (Value.int .i64))) :
    GotQ wr ((wz.setCell ⟨RE, 0, none⟩ (.int .i64 c)).setCell ⟨RE, 1, none⟩ (.slice ea en ek)) b B0 bs q RF RE W H f zs := by
  have hb0 := hr.base
  have kS : Kp RE wz ((wz.setCell ⟨RE, 0, none⟩ (.int .i64 c)).setCell ⟨RE, 1, none⟩ (.slice ea en ek)) := ((Kp.refl RE wz).set 0 _).set 1 _
  have hF2 := hbF.kp kS hne
  obtain ⟨g0, g1, -, -⟩ := hbE.res
  obtain ⟨y0, y1⟩ := res_cells g0 g1 (c := c) (.slice ea en ek)
  exact ⟨x, y, sa, sn, sk, c, ea, en, ek, ⟨⟨hF2.cell rfl, hF2.cell rfl, hF2.cell rfl⟩, y0, y1⟩, (hk.fresh hE 0 _).fresh hE 1 _, hr.kp kS (by omega) (by omega), he.box hbE _ _, fun hf => by
    obtain ⟨g1, g2, g3⟩ := hg hf
    exact ⟨g1, g2, own_kp g3 kS (fun d hd => fun e => BoxIs.apart (show BoxIs wz RE _ _ from hbE) g3 (by decide) (by rw [hd, e]))⟩⟩
theorem gq_new {wr wx : World} {b B0 q RF RE W H : Nat} {bs : List Nat} {f : Fall} {zs : List Int} {x y c : Int} {sa : Option Addr} {sn sk : Nat} {ea : Option Addr} {en ek : Nat} (hbF : BoxIs wx RF #[.int .i64 x, .int .i64 y, .slice sa sn sk] 48) (hbE : BoxIs wx RE #[.int .i64 c, .slice ea en ek] 34) (hk : Kp b wr wx) (hr : RqAt wx b bs q B0) (he : RErrIs wx f c (.slice ea en ek))
    (hg : f = none → x = (W : Int) ∧ y = (H : Int) ∧ wx.ownsRow wr.heap.size 3 1 (.slice sa sn sk) (W * H) (zs.map (Value.int .i64))) : GotQ wr wx b B0 bs q RF RE W H f zs :=
  ⟨x, y, sa, sn, sk, c, ea, en, ek, ⟨⟨hbF.cell rfl, hbF.cell rfl, hbF.cell rfl⟩, hbE.cell rfl, hbE.cell rfl⟩, hk, hr, he, hg⟩
/-- likewise at a world that only grew -/
theorem gq_ext {w5 w' : World} {B W H : Nat} {f : Fall} {x y : Int} {zs : List Int} {s : Value} {base : Nat} (hg : f = none → x = (W : Int) ∧ y = (H : Int) ∧ w5.ownsRow base 3 1 s (W * H) (zs.map (Value.int .i64))) (k : Ext w5 w') (hB : B ≤ base) : f = none → x = (W : Int) ∧ y = (H : Int) ∧ w'.ownsRow B 3 1 s (W * H) (zs.map (Value.int .i64)) := fun hf => by
  obtain ⟨g1, g2, g3⟩ := hg hf
  exact ⟨g1, g2, own_mono (own_ext g3 k) hB⟩
theorem own_slc15 {w : World} {base n : Nat} {v : Value} {e : TypeId} {s : Nat} {xs : List Value} (h : w.ownsRow base e s v n xs) : ∃ a m c, v = .slice a m c := by
  rcases h.2 with ⟨rfl, -⟩ | ⟨g, cap, cur, rfl, -⟩
  · exact ⟨_, _, _, rfl⟩
  · exact ⟨_, _, _, rfl⟩
/-- two cells of a box of the call's own are written -/
theorem RdAtQ.fresh2 {w0 wr : World} {B b B0 k p R : Nat} {bs : List Nat} {L : List Fr} {S : Nat → Value} {lv : Value} (h : RdAtQ w0 wr B b B0 bs k L S lv p) (hR : B ≤ R) (x y : Value) (hbB : b < B) (hw : w0.heap.size < B) {cs : Array Value} (hb : BoxIs wr R cs 34) : RdAtQ w0 ((wr.setCell ⟨R, 0, none⟩ x).setCell ⟨R, 1, none⟩ y) B b B0 bs k L S lv p := by
  obtain ⟨⟨r1, r2⟩, h2, h3, h4, h5, h6, h7⟩ := h
  have kR : Kp R wr ((wr.setCell ⟨R, 0, none⟩ x).setCell ⟨R, 1, none⟩ y) := ((Kp.refl R wr).set 0 _).set 1 _
  have hb0 := r1.base
  refine ⟨⟨r1.kp kR (by omega) (by omega), r2⟩, own_kp h2 kR (fun g hg e => hb.apart h2 (by decide) (by rw [hg, e])), fun i hi => ?_, h4, (h5.setCell (p := ⟨R, 0, none⟩) (show w0.heap.size ≤ R by omega) x).setCell (p := ⟨R, 1, none⟩) (show w0.heap.size ≤ R by omega) y, Nat.le_trans h6 kR.size, h7.kp kR (by omega)⟩
  obtain ⟨o1, o2⟩ := h3 i hi
  exact ⟨own_kp o1 kR (fun g hg e => hb.apart o1 (by decide) (by rw [hg, e])), o2⟩
set_option maxHeartbeats 60000000 in
set_option maxRecDepth 100000 in
theorem rdecode_any (bs : List Nat) (v : Value) (w : World) (h : Bys w v bs) : Calls Tryz.prog 15 #[v] w (RDcPost w (dcR bs)) := by
  obtain ⟨a, cap, rfl⟩ := h.form
  obtain ⟨n, hn⟩ : ∃ n, bs.length = n := ⟨_, rfl⟩
  have HN := Lib.hid hn
  rw [hn] at h ⊢
  have HBX := Lib.hid (RBox.new w)
  have HE0 : Hid (Ext w (w.alloc (.cells #[.int .i64 0, .slice none 0 0] 34))) := (Ext.refl w).alloc _
  by_cases h0 : hdC bs = 0
  · obtain ⟨h5, hx0, hx1, hX, hY, hN⟩ := hdC_zero h0
    obtain ⟨g, off, rfl⟩ := h.had (by omega)
    have hcap := h.caps
    have c0 := HE0.out.cell (h.at (nget_of_lt (j := 0) (by omega)))
    have c1 := HE0.out.cell (h.at (nget_of_lt (j := 1) (by omega)))
    have C2 := Lib.hid (h.at (nget_of_lt (j := 2) (by omega)))
    have C3 := Lib.hid (h.at (nget_of_lt (j := 3) (by omega)))
    have C4 := Lib.hid (h.at (nget_of_lt (j := 4) (by omega)))
    have c2 := HE0.out.cell C2.out
    have c3 := HE0.out.cell C3.out
    have c4 := HE0.out.cell C4.out
    rw [Nat.add_zero, hx0] at c0
    rw [hx1] at c1
    have HR : Hid (dcR bs = dcE (bs.drop 5) (bs.getD 4 0) (dcL (bs.drop 5) (8 * bs.getD 2 0) (8 * bs.getD 3 0) (bs.getD 4 0) [] 0)) := by show _ = _; unfold dcR; rw [if_pos h0]
    generalize bs.getD 2 0 = X at *
    generalize bs.getD 3 0 = Y at *
    generalize bs.getD 4 0 = N at *
    obtain ⟨W, hW⟩ : ∃ W, 8 * X = W := ⟨_, rfl⟩
    obtain ⟨H, hH⟩ : ∃ H, 8 * Y = H := ⟨_, rfl⟩
    rw [hW, hH] at HR
    have mX : IntKind.i64.wrap (X : Int) = (X : Int) := by rw [IntKind.wrap_i64]; omega
    have mY : IntKind.i64.wrap (Y : Int) = (Y : Int) := by rw [IntKind.wrap_i64]; omega
    have mN : IntKind.i64.wrap (N : Int) = (N : Int) := by rw [IntKind.wrap_i64]; omega
    have mW : IntKind.i64.wrap (8 * (X : Int)) = (W : Int) := by rw [IntKind.wrap_i64]; omega
    have mH : IntKind.i64.wrap (8 * (Y : Int)) = (H : Int) := by rw [IntKind.wrap_i64]; omega
    have hW8 : 8 ≤ W ∧ W ≤ 32 := by omega
    have hH8 : 8 ≤ H ∧ H ≤ 32 := by omega
    have s0 : (0 : Int) < (n : Int) := by omega
    have s1 : (1 : Int) < (n : Int) := by omega
    have s2 : (2 : Int) < (n : Int) := by omega
    have s3 : (3 : Int) < (n : Int) := by omega
    have s4 : (4 : Int) < (n : Int) := by omega
    have s5 : (5 : Int) ≤ (n : Int) := by omega
    have s6 : (5 : Int) ≤ (cap : Int) := by omega
    have l5 : ¬ (n : Int) < 5 := by omega
    have x1 : ¬ (X : Int) < 1 := by omega
    have x2 : ¬ (4 : Int) < (X : Int) := by omega
    have x3 : ¬ (Y : Int) < 1 := by omega
    have x4 : ¬ (4 : Int) < (Y : Int) := by omega
    have x5 : ¬ (N : Int) < 1 := by omega
    have x6 : ¬ (16 : Int) < (N : Int) := by omega
    have hg0 : g < w.heap.size := Ext.lt (p := ⟨g, off + 4, none⟩) C4.out
    have HRQ : Hid (∀ (off' n' cap' : Nat) (w' : World), Ext w w' → Bys w' (.slice (some ⟨g, off', none⟩) n' cap') (bs.drop 5) → RqAt (w'.alloc (.cells #[.slice (some ⟨g, off', none⟩) n' cap', .int .i64 0] 83)) w'.heap.size (bs.drop 5) 0 w.heap.size) := fun off' n' cap' w' x hb => by
      have hl := hb.len
      subst hl
      exact ⟨some ⟨g, off', none⟩, cap', ⟨by simp, by simp, by simp⟩, hb.ext ((Ext.refl w').alloc _), fun _ g' o' e => by simp only [Option.some.injEq, Addr.mk.injEq, and_true] at e; omega, x.size⟩
    have HB := Lib.hid h
    have h55 : 5 ≤ n := by omega
    clear h hn h0 hx0 hx1 hW hH
    go_enter Tryz.func15, Tryz.ntmps15
    go_upto_region 7 with fail
    go_cut [4] from 64 to 67 (fun rv wx => ∃ b, rv = .pointer (some ⟨b, 0, none⟩) ∧ Hid (RqAt wx b (bs.drop 5) 0 w.heap.size) ∧ Hid (Ext w wx) ∧ Hid (RBox wx w.heap.size) ∧ w.heap.size < b)
    case first =>
      by_cases hc : cap = 5
      · subst hc
        obtain rfl : n = 5 := by omega
        have hnil : bs.drop 5 = [] := List.drop_of_length_le (by have := HN.out; omega)
        have hRQ := HRQ.out off 0 0 _ HE0.out (by
          rw [hnil]
          exact ⟨⟨some ⟨g, off, none⟩, 0, rfl, Nat.le_refl _, Nat.zero_le _, fun h => absurd h (Nat.lt_irrefl _), fun _ _ _ j u hj => by simp at hj⟩, by simp, by simp⟩)
        rw [show (w.alloc (.cells #[.int .i64 0, .slice none 0 0] 34)).heap.size = w.heap.size + 1 by simp] at hRQ
        have HRQ2 := Lib.hid hRQ
        clear hRQ
        go_wp2_with fail
        go_meet
        exact ⟨_, rfl, HRQ2.out, HE0.out.alloc _, HBX.out.ext ((Ext.refl _).alloc _), Nat.lt_succ_self _⟩
      · have c5 : ¬ cap - 5 = 0 := by omega
        have hRQ := HRQ.out (off + 5) (n - 5) (cap - 5) _ HE0.out ((HB.out.tail h55).ext HE0.out)
        rw [show (w.alloc (.cells #[.int .i64 0, .slice none 0 0] 34)).heap.size = w.heap.size + 1 by simp] at hRQ
        have HRQ2 := Lib.hid hRQ
        clear hRQ
        go_wp2_with fail
        go_meet
        exact ⟨_, rfl, HRQ2.out, HE0.out.alloc _, HBX.out.ext ((Ext.refl _).alloc _), Nat.lt_succ_self _⟩
    clear HRQ HBX HE0 c0 c1 c2 c3 c4 x1 x2 x3 x4 x5 x6
    obtain ⟨b, rfl, HQ0, HX0, HB0, hwb⟩ := hcut
    have c4 := HX0.out.cell C4.out
    obtain ⟨B, hB⟩ : ∃ B, wc.heap.size = B := ⟨_, rfl⟩
    have hbB : b < B := by rw [← hB]; exact HQ0.out.lt
    have hwB : w.heap.size < B := Nat.lt_trans hwb hbB
    have HD0 : Hid (RdAtQ w wc B b w.heap.size (bs.drop 5) 0 [] (fun _ => .slice none 0 0) (.slice none 0 0) 0) := ⟨⟨HQ0.out, Nat.zero_le _⟩, World.ownsRow_nil _ _ _ _, fun q hq => absurd hq (Nat.not_lt_zero _), rfl, HX0.out, by rw [hB]; exact Nat.le_refl _, HB0.out⟩
    clear HQ0 HX0 HB0 hB
    go_wp2_with fail
    go_loopw [5, 7] (fun lv iv wr => ∃ (k : Nat) (L : List Fr) (S : Nat → Value) (p : Nat), k ≤ N ∧ iv = .int .i64 (k : Int) ∧ Hid (RdAtQ w wr B b w.heap.size (bs.drop 5) k L S lv p) ∧ Hid (dcL (bs.drop 5) W H (N - k) L p = dcL (bs.drop 5) W H N [] 0)) (fun _ iv _ => N - (intOf iv).toNat)
    case atStart => exact ⟨0, [], _, 0, Nat.zero_le _, rfl, HD0, rfl⟩
    case round =>
      clear HD0 c4
      obtain ⟨k, L, S, p, hk, rfl, HD, HQ⟩ := hrel
      by_cases hlt : k < N
      · have t1 : (k : Int) < (N : Int) := by omega
        obtain ⟨hRq, hp⟩ := HD.out.1
        have HE := Lib.hid HD.out.2.2.2.2.1
        have d2 := HE.out.cell C2.out
        have d3 := HE.out.cell C3.out
        have UQ := Lib.hid (fun (W' : World) (x : Ext wr W') => rfr_any b p w.heap.size W H (bs.drop 5) W' (hRq.ext x) hp hW8 hH8)
        have F1 := Lib.hid ((Ext.refl wr).alloc (.cells #[.int .i64 0, .int .i64 0, .slice none 0 0] 48))
        have G1 := Lib.hid ((Ext.refl wr).alloc (.cells #[.int .i64 0, .slice none 0 0] 34))
        have FG := Lib.hid (F1.out.alloc (.cells #[.int .i64 0, .slice none 0 0] 34))
        have GF := Lib.hid (G1.out.alloc (.cells #[.int .i64 0, .int .i64 0, .slice none 0 0] 48))
        have U1 := Lib.hid (UQ.out wr.drew (Ext.refl wr).drew)
        have U2 := Lib.hid (UQ.out _ F1.out.drew)
        have U3 := Lib.hid (UQ.out _ G1.out.drew)
        have U4 := Lib.hid (UQ.out _ FG.out.drew)
        have U5 := Lib.hid (UQ.out _ GF.out.drew)
        have BF2 := Lib.hid ((BoxIs.new wr #[.int .i64 0, .int .i64 0, .slice none 0 0] 48).ext (Ext.refl _).drew)
        have BE3 := Lib.hid ((BoxIs.new wr #[.int .i64 0, .slice none 0 0] 34).ext (Ext.refl _).drew)
        have BF4 := Lib.hid ((BoxIs.new wr #[.int .i64 0, .int .i64 0, .slice none 0 0] 48).ext ((Ext.refl _).alloc (.cells #[.int .i64 0, .slice none 0 0] 34)).drew)
        have BE4 := Lib.hid ((BoxIs.new (wr.alloc (.cells #[.int .i64 0, .int .i64 0, .slice none 0 0] 48)) #[.int .i64 0, .slice none 0 0] 34).ext (Ext.refl _).drew)
        have BE5 := Lib.hid ((BoxIs.new wr #[.int .i64 0, .slice none 0 0] 34).ext ((Ext.refl _).alloc (.cells #[.int .i64 0, .int .i64 0, .slice none 0 0] 48)).drew)
        have BF5 := Lib.hid ((BoxIs.new (wr.alloc (.cells #[.int .i64 0, .slice none 0 0] 34)) #[.int .i64 0, .int .i64 0, .slice none 0 0] 48).ext (Ext.refl _).drew)
        rw [show (wr.alloc (.cells #[.int .i64 0, .int .i64 0, .slice none 0 0] 48)).heap.size = wr.heap.size + 1 by simp] at BE4
        rw [show (wr.alloc (.cells #[.int .i64 0, .slice none 0 0] 34)).heap.size = wr.heap.size + 1 by simp] at BF5
        have hbr : b < wr.heap.size := Nat.lt_of_lt_of_le hbB HD.out.2.2.2.2.2.1
        clear hRq UQ
        go_wp2_with fail
        have d2f := F1.out.cell d2
        have d3f := F1.out.cell d3
        have d2g := G1.out.cell d2
        have d3g := G1.out.cell d3
        have d2x := FG.out.cell d2
        have d3x := FG.out.cell d3
        have d2y := GF.out.cell d2
        have d3y := GF.out.cell d3
        go_cut [8, 9] from 77 to 91 (fun bv ev wx => ∃ DF DE, bv = .pointer (some ⟨DF, 0, none⟩) ∧ ev = .pointer (some ⟨DE, 0, none⟩) ∧ Hid (GotQ wr wx b w.heap.size (bs.drop 5) (rdFr (bs.drop 5) W H p).2.2 DF DE W H (rdFr (bs.drop 5) W H p).1 (rdFr (bs.drop 5) W H p).2.1))
        case first =>
          have KS : Hid (∀ w', Kp b wr w' → (w'.cell? ⟨g, off + 2, none⟩ = some (.int .u8 (X : Int)) ∧ w'.cell? ⟨g, off + 3, none⟩ = some (.int .u8 (Y : Int))) ∧ Kp b wr w') := fun w' kk => ⟨⟨kk.cell d2 (by show g ≠ b; omega), kk.cell d3 (by show g ≠ b; omega)⟩, kk⟩
          have KPF := Kp.of_ext (b := b) F1.out.drew
          have KPG := Kp.of_ext (b := b) G1.out.drew
          have KPX := Kp.of_ext (b := b) FG.out.drew
          have KPY := Kp.of_ext (b := b) GF.out.drew
          refine wp_region_held_drew (S := fun w' => (w'.cell? ⟨g, off + 2, none⟩ = some (.int .u8 (X : Int)) ∧ w'.cell? ⟨g, off + 3, none⟩ = some (.int .u8 (Y : Int))) ∧ Kp b wr w') (by kernel_rfl) (KS.out _ (Kp.of_ext (Ext.refl wr).drew)) (fun hHeld => ?_)
          refine wpAnyH_take (i := 0) (oi := { dst := some 78, op := Op.move (Operand.tmp 4), type := 81, pos := "ref.go:121", after := #[], guard := none }) (v := ?_) rfl (by kernel_rfl) (by kernel_rfl) (by kernel_rfl) (fun _ _ _ h => h) (Or.inl ⟨by rfl, ?_⟩) (by assumption) ?_
          case refine_2 => (intro w hSw; (try dsimp only at hSw); go_simp; (try with_reducible rfl))
          try simp only [Act.put, List.setIfInBounds_toArray, List.set_cons_zero, List.set_cons_succ]
          refine wpAnyH_take (i := 1) (oi := { dst := some 79, op := Op.move (Operand.tmp 0), type := 26, pos := "ref.go:121", after := #[], guard := none }) (v := ?_) rfl (by kernel_rfl) (by kernel_rfl) (by kernel_rfl) (fun _ _ _ h => h) (Or.inl ⟨by rfl, ?_⟩) (by assumption) ?_
          case refine_2 => (intro w hSw; (try dsimp only at hSw); go_simp; (try with_reducible rfl))
          try simp only [Act.put, List.setIfInBounds_toArray, List.set_cons_zero, List.set_cons_succ]
          refine wpAnyH_take (i := 2) (oi := { dst := some 80, op := Op.indexAddr 26 (Operand.tmp 79) (Operand.const (Value.int IntKind.i64 2)), type := 0, pos := "ref.go:121", after := #[{ on := 1, ground := Ground.data }], guard := none }) (v := ?_) rfl (by kernel_rfl) (by kernel_rfl) (by kernel_rfl) (fun _ _ _ h => h) (Or.inl ⟨by rfl, ?_⟩) (by assumption) ?_
          case refine_2 => (intro w hSw; (try dsimp only at hSw); go_simp; (try with_reducible rfl))
          try simp only [Act.put, List.setIfInBounds_toArray, List.set_cons_zero, List.set_cons_succ]
          refine wpAnyH_take (i := 3) (oi := { dst := some 81, op := Op.load 5 (Operand.tmp 80), type := 5, pos := "ref.go:121", after := #[{ on := 2, ground := Ground.data }], guard := none }) (v := ?_) rfl (by kernel_rfl) (by kernel_rfl) (by kernel_rfl) (fun _ _ _ h => h) (Or.inl ⟨by rfl, ?_⟩) (by assumption) ?_
          case refine_2 => (intro w hSw; (try dsimp only at hSw); go_simp; (try with_reducible rfl))
          try simp only [Act.put, List.setIfInBounds_toArray, List.set_cons_zero, List.set_cons_succ]
          refine wpAnyH_take (i := 4) (oi := { dst := some 82, op := Op.convert 5 3 (Operand.tmp 81), type := 3, pos := "ref.go:121", after := #[{ on := 3, ground := Ground.data }], guard := none }) (v := ?_) rfl (by kernel_rfl) (by kernel_rfl) (by kernel_rfl) (fun _ _ _ h => h) (Or.inl ⟨by rfl, ?_⟩) (by assumption) ?_
          case refine_2 => (intro w hSw; (try dsimp only at hSw); go_simp; (try with_reducible rfl))
          try simp only [Act.put, List.setIfInBounds_toArray, List.set_cons_zero, List.set_cons_succ]
          refine wpAnyH_take (i := 5) (oi := { dst := some 83, op := Op.binOp BinOp.mul 3 (Operand.const (Value.int IntKind.i64 8)) (Operand.tmp 82) 3, type := 3, pos := "ref.go:121", after := #[{ on := 4, ground := Ground.data }], guard := none }) (v := ?_) rfl (by kernel_rfl) (by kernel_rfl) (by kernel_rfl) (fun _ _ _ h => h) (Or.inl ⟨by rfl, ?_⟩) (by assumption) ?_
          case refine_2 => (intro w hSw; (try dsimp only at hSw); go_simp; (try with_reducible rfl))
          try simp only [Act.put, List.setIfInBounds_toArray, List.set_cons_zero, List.set_cons_succ]
          refine wpAnyH_take (i := 6) (oi := { dst := some 84, op := Op.move (Operand.tmp 0), type := 26, pos := "ref.go:121", after := #[], guard := none }) (v := ?_) rfl (by kernel_rfl) (by kernel_rfl) (by kernel_rfl) (fun _ _ _ h => h) (Or.inl ⟨by rfl, ?_⟩) (by assumption) ?_
          case refine_2 => (intro w hSw; (try dsimp only at hSw); go_simp; (try with_reducible rfl))
          try simp only [Act.put, List.setIfInBounds_toArray, List.set_cons_zero, List.set_cons_succ]
          refine wpAnyH_take (i := 7) (oi := { dst := some 85, op := Op.indexAddr 26 (Operand.tmp 84) (Operand.const (Value.int IntKind.i64 3)), type := 0, pos := "ref.go:121", after := #[{ on := 6, ground := Ground.data }], guard := none }) (v := ?_) rfl (by kernel_rfl) (by kernel_rfl) (by kernel_rfl) (fun _ _ _ h => h) (Or.inl ⟨by rfl, ?_⟩) (by assumption) ?_
          case refine_2 => (intro w hSw; (try dsimp only at hSw); go_simp; (try with_reducible rfl))
          try simp only [Act.put, List.setIfInBounds_toArray, List.set_cons_zero, List.set_cons_succ]
          refine wpAnyH_take (i := 8) (oi := { dst := some 86, op := Op.load 5 (Operand.tmp 85), type := 5, pos := "ref.go:121", after := #[{ on := 7, ground := Ground.data }], guard := none }) (v := ?_) rfl (by kernel_rfl) (by kernel_rfl) (by kernel_rfl) (fun _ _ _ h => h) (Or.inl ⟨by rfl, ?_⟩) (by assumption) ?_
          case refine_2 => (intro w hSw; (try dsimp only at hSw); go_simp; (try with_reducible rfl))
          try simp only [Act.put, List.setIfInBounds_toArray, List.set_cons_zero, List.set_cons_succ]
          refine wpAnyH_take (i := 9) (oi := { dst := some 87, op := Op.convert 5 3 (Operand.tmp 86), type := 3, pos := "ref.go:121", after := #[{ on := 8, ground := Ground.data }], guard := none }) (v := ?_) rfl (by kernel_rfl) (by kernel_rfl) (by kernel_rfl) (fun _ _ _ h => h) (Or.inl ⟨by rfl, ?_⟩) (by assumption) ?_
          case refine_2 => (intro w hSw; (try dsimp only at hSw); go_simp; (try with_reducible rfl))
          try simp only [Act.put, List.setIfInBounds_toArray, List.set_cons_zero, List.set_cons_succ]
          refine wpAnyH_take (i := 10) (oi := { dst := some 88, op := Op.binOp BinOp.mul 3 (Operand.const (Value.int IntKind.i64 8)) (Operand.tmp 87) 3, type := 3, pos := "ref.go:121", after := #[{ on := 9, ground := Ground.data }], guard := none }) (v := ?_) rfl (by kernel_rfl) (by kernel_rfl) (by kernel_rfl) (fun _ _ _ h => h) (Or.inl ⟨by rfl, ?_⟩) (by assumption) ?_
          case refine_2 => (intro w hSw; (try dsimp only at hSw); go_simp; (try with_reducible rfl))
          try simp only [Act.put, List.setIfInBounds_toArray, List.set_cons_zero, List.set_cons_succ]
          refine wpAnyH_ready (rs := [11, 15, 16]) (by kernel_rfl) (by simp) ?_
          refine AllReadyH.cons (o := { dst := some 89, op := Op.call { callee := Callee.value (Operand.func 39), args := #[Operand.tmp 78, Operand.tmp 83, Operand.tmp 88], argTypes := #[81, 3, 3] }, type := 84, pos := "ref.go:121", after := #[{ on := 0, ground := Ground.data }, { on := 5, ground := Ground.data }, { on := 10, ground := Ground.data }], guard := none }) rfl (fun K hK => ?_) (AllReadyH.cons (o := { dst := some 8, op := Op.alloc 48, type := 0, pos := "ref.go:121", after := #[], guard := none }) rfl (fun K hK => ?_) (AllReadyH.cons (o := { dst := some 9, op := Op.alloc 34, type := 0, pos := "ref.go:121", after := #[], guard := none }) rfl (fun K hK => ?_) AllReadyH.nil))
          · -- 11
            go_simp
            go_at_call 39
            refine U1.out.mono ?_
            rintro e w5 ⟨x5, y5, sa, sn, sk, c5, u5, rfl, hkA, hr5, he5, hg5⟩
            obtain ⟨ea, en, ek, rfl⟩ := rerr_form15 he5
            have ja := (BoxIs.new w5 #[.int .i64 0, .int .i64 0, .slice none 0 0] 48).ext ((Ext.refl _).alloc (.cells #[.int .i64 0, .slice none 0 0] 34))
            have jac0 : ((w5.alloc (.cells #[.int .i64 0, .int .i64 0, .slice none 0 0] 48)).alloc (.cells #[.int .i64 0, .slice none 0 0] 34)).cell? ⟨w5.heap.size, 0, none⟩ = some (.int .i64 0) := ja.cell (i := 0) rfl
            have jaf0 := ja.free (i := 0)
            have jac1 : ((w5.alloc (.cells #[.int .i64 0, .int .i64 0, .slice none 0 0] 48)).alloc (.cells #[.int .i64 0, .slice none 0 0] 34)).cell? ⟨w5.heap.size, 1, none⟩ = some (.int .i64 0) := ja.cell (i := 1) rfl
            have jaf1 := ja.free (i := 1)
            have jac2 : ((w5.alloc (.cells #[.int .i64 0, .int .i64 0, .slice none 0 0] 48)).alloc (.cells #[.int .i64 0, .slice none 0 0] 34)).cell? ⟨w5.heap.size, 2, none⟩ = some (.slice none 0 0) := ja.cell (i := 2) rfl
            have jaf2 := ja.free (i := 2)
            have jb := (BoxIs.new w5 #[.int .i64 0, .slice none 0 0] 34).ext ((Ext.refl _).alloc (.cells #[.int .i64 x5, .int .i64 y5, .slice sa sn sk] 48))
            have jbc0 : ((w5.alloc (.cells #[.int .i64 0, .slice none 0 0] 34)).alloc (.cells #[.int .i64 x5, .int .i64 y5, .slice sa sn sk] 48)).cell? ⟨w5.heap.size, 0, none⟩ = some (.int .i64 0) := jb.cell (i := 0) rfl
            have jbf0 := jb.free (i := 0)
            have jbc1 : ((w5.alloc (.cells #[.int .i64 0, .slice none 0 0] 34)).alloc (.cells #[.int .i64 x5, .int .i64 y5, .slice sa sn sk] 48)).cell? ⟨w5.heap.size, 1, none⟩ = some (.slice none 0 0) := jb.cell (i := 1) rfl
            have jbf1 := jb.free (i := 1)
            have jc := (BoxIs.new w5 #[.int .i64 0, .slice none 0 0] 34).ext ((Ext.refl _).alloc (.cells #[.int .i64 0, .int .i64 0, .slice none 0 0] 48))
            have jcc0 : ((w5.alloc (.cells #[.int .i64 0, .slice none 0 0] 34)).alloc (.cells #[.int .i64 0, .int .i64 0, .slice none 0 0] 48)).cell? ⟨w5.heap.size, 0, none⟩ = some (.int .i64 0) := jc.cell (i := 0) rfl
            have jcf0 := jc.free (i := 0)
            have jcc1 : ((w5.alloc (.cells #[.int .i64 0, .slice none 0 0] 34)).alloc (.cells #[.int .i64 0, .int .i64 0, .slice none 0 0] 48)).cell? ⟨w5.heap.size, 1, none⟩ = some (.slice none 0 0) := jc.cell (i := 1) rfl
            have jcf1 := jc.free (i := 1)
            have KP5 := (Kp.of_ext (Ext.refl wr).drew).trans hkA
            have hle5 := KP5.size
            refine hK.out _ _ (KS.out _ KP5) (fun hHeld => ?_)
            clear hK K
            try simp only [Act.put, List.setIfInBounds_toArray, List.set_cons_zero, List.set_cons_succ]
            refine wpAnyH_take (i := 12) (oi := { dst := some 77, op := Op.move (Operand.tmp 89), type := 84, pos := "ref.go:121", after := #[{ on := 11, ground := Ground.data }], guard := none }) (v := ?_) rfl (by kernel_rfl) (by kernel_rfl) (by kernel_rfl) (fun _ _ _ h => h) (Or.inl ⟨by rfl, ?_⟩) (by assumption) ?_
            case refine_2 => (intro w hSw; (try dsimp only at hSw); go_simp; (try with_reducible rfl))
            try simp only [Act.put, List.setIfInBounds_toArray, List.set_cons_zero, List.set_cons_succ]
            refine wpAnyH_take (i := 13) (oi := { dst := some 90, op := Op.extract (Operand.tmp 77) 0, type := 48, pos := "ref.go:121", after := #[{ on := 12, ground := Ground.data }], guard := none }) (v := ?_) rfl (by kernel_rfl) (by kernel_rfl) (by kernel_rfl) (fun _ _ _ h => h) (Or.inl ⟨by rfl, ?_⟩) (by assumption) ?_
            case refine_2 => (intro w hSw; (try dsimp only at hSw); go_simp; (try with_reducible rfl))
            try simp only [Act.put, List.setIfInBounds_toArray, List.set_cons_zero, List.set_cons_succ]
            refine wpAnyH_take (i := 14) (oi := { dst := some 91, op := Op.extract (Operand.tmp 77) 1, type := 34, pos := "ref.go:121", after := #[{ on := 12, ground := Ground.data }, { on := 17, ground := Ground.gcOnly Departure.lateStores }], guard := none }) (v := ?_) rfl (by kernel_rfl) (by kernel_rfl) (by kernel_rfl) (fun _ _ _ h => h) (Or.inl ⟨by rfl, ?_⟩) (by assumption) ?_
            case refine_2 => (intro w hSw; (try dsimp only at hSw); go_simp; (try with_reducible rfl))
            try simp only [Act.put, List.setIfInBounds_toArray, List.set_cons_zero, List.set_cons_succ]
            refine wpAnyH_ready (rs := [15, 16]) (by kernel_rfl) (by simp) ?_
            refine AllReadyH.cons (o := { dst := some 8, op := Op.alloc 48, type := 0, pos := "ref.go:121", after := #[], guard := none }) rfl (fun K hK => ?_) (AllReadyH.cons (o := { dst := some 9, op := Op.alloc 34, type := 0, pos := "ref.go:121", after := #[], guard := none }) rfl (fun K hK => ?_) AllReadyH.nil)
            · -- 15
              go_simp
              refine hK.out _ _ (KS.out _ (by repeat (first | (with_reducible exact KP5) | (with_reducible exact KPF) | (with_reducible exact KPG) | (with_reducible exact KPX) | (with_reducible exact KPY) | (with_reducible refine Kp.ext ?_ ((Ext.refl _).drew)) | (with_reducible refine Kp.ext ?_ ((Ext.refl _).alloc _)) | (with_reducible refine Kp.fresh15 ?_ (by first | exact Nat.le_refl _ | exact hle5 | exact Nat.le_succ _ | omega) _ _)))) (fun hHeld => ?_)
              clear hK K
              try simp only [Act.put, List.setIfInBounds_toArray, List.set_cons_zero, List.set_cons_succ]
              refine wpAnyH_ready (rs := [16]) (by kernel_rfl) (by simp) ?_
              refine AllReadyH.cons (o := { dst := some 9, op := Op.alloc 34, type := 0, pos := "ref.go:121", after := #[], guard := none }) rfl (fun K hK => ?_) AllReadyH.nil
              · -- 16
                go_simp
                refine hK.out _ _ (KS.out _ (by repeat (first | (with_reducible exact KP5) | (with_reducible exact KPF) | (with_reducible exact KPG) | (with_reducible exact KPX) | (with_reducible exact KPY) | (with_reducible refine Kp.ext ?_ ((Ext.refl _).drew)) | (with_reducible refine Kp.ext ?_ ((Ext.refl _).alloc _)) | (with_reducible refine Kp.fresh15 ?_ (by first | exact Nat.le_refl _ | exact hle5 | exact Nat.le_succ _ | omega) _ _)))) (fun hHeld => ?_)
                clear hK K
                try simp only [Act.put, List.setIfInBounds_toArray, List.set_cons_zero, List.set_cons_succ]
                refine wpAnyH_ready (rs := [17]) (by kernel_rfl) (by simp) ?_
                refine AllReadyH.cons (o := { dst := none, op := Op.store 48 (Operand.tmp 8) (Operand.tmp 90), type := 0, pos := "ref.go:121", after := #[{ on := 15, ground := Ground.data }, { on := 13, ground := Ground.data }, { on := 11, ground := Ground.chain }, { on := 0, ground := Ground.phase }, { on := 1, ground := Ground.phase }, { on := 2, ground := Ground.phase }, { on := 3, ground := Ground.phase }, { on := 4, ground := Ground.phase }, { on := 5, ground := Ground.phase }, { on := 6, ground := Ground.phase }, { on := 7, ground := Ground.phase }, { on := 8, ground := Ground.phase }, { on := 9, ground := Ground.phase }, { on := 10, ground := Ground.phase }, { on := 11, ground := Ground.phase }, { on := 12, ground := Ground.phase }, { on := 13, ground := Ground.phase }, { on := 14, ground := Ground.textOnly Departure.lateStores }, { on := 15, ground := Ground.phase }, { on := 16, ground := Ground.phase }], guard := none }) rfl (fun K hK => ?_) AllReadyH.nil
                go_simp
                refine hK.out _ _ (KS.out _ (by repeat (first | (with_reducible exact KP5) | (with_reducible exact KPF) | (with_reducible exact KPG) | (with_reducible exact KPX) | (with_reducible exact KPY) | (with_reducible refine Kp.ext ?_ ((Ext.refl _).drew)) | (with_reducible refine Kp.ext ?_ ((Ext.refl _).alloc _)) | (with_reducible refine Kp.fresh15 ?_ (by first | exact Nat.le_refl _ | exact hle5 | exact Nat.le_succ _ | omega) _ _)))) (fun hHeld => ?_)
                clear hK K
                try simp only [Act.put, List.setIfInBounds_toArray, List.set_cons_zero, List.set_cons_succ]
                refine wpAnyH_ready (rs := [18]) (by kernel_rfl) (by simp) ?_
                refine AllReadyH.cons (o := { dst := none, op := Op.store 34 (Operand.tmp 9) (Operand.tmp 91), type := 0, pos := "ref.go:121", after := #[{ on := 16, ground := Ground.data }, { on := 14, ground := Ground.data }, { on := 17, ground := Ground.chain }, { on := 0, ground := Ground.phase }, { on := 1, ground := Ground.phase }, { on := 2, ground := Ground.phase }, { on := 3, ground := Ground.phase }, { on := 4, ground := Ground.phase }, { on := 5, ground := Ground.phase }, { on := 6, ground := Ground.phase }, { on := 7, ground := Ground.phase }, { on := 8, ground := Ground.phase }, { on := 9, ground := Ground.phase }, { on := 10, ground := Ground.phase }, { on := 11, ground := Ground.phase }, { on := 12, ground := Ground.phase }, { on := 13, ground := Ground.phase }, { on := 14, ground := Ground.phase }, { on := 15, ground := Ground.phase }, { on := 16, ground := Ground.phase }, { on := 17, ground := Ground.phase }], guard := none }) rfl (fun K hK => ?_) AllReadyH.nil
                go_simp
                refine hK.out _ _ (KS.out _ (by repeat (first | (with_reducible exact KP5) | (with_reducible exact KPF) | (with_reducible exact KPG) | (with_reducible exact KPX) | (with_reducible exact KPY) | (with_reducible refine Kp.ext ?_ ((Ext.refl _).drew)) | (with_reducible refine Kp.ext ?_ ((Ext.refl _).alloc _)) | (with_reducible refine Kp.fresh15 ?_ (by first | exact Nat.le_refl _ | exact hle5 | exact Nat.le_succ _ | omega) _ _)))) (fun hHeld => ?_)
                clear hK K
                try simp only [Act.put, List.setIfInBounds_toArray, List.set_cons_zero, List.set_cons_succ]
                refine wpAnyH_done (by kernel_rfl) ?_ _
                go_wp2_with fail
                go_meet
                exact ⟨_, _, rfl, rfl, gq_new ((BoxIs.new w5 #[.int .i64 x5, .int .i64 y5, .slice sa sn sk] 48).ext ((Ext.refl _).alloc (.cells #[.int .i64 c5, .slice ea en ek] 34))) (by have hbb := BoxIs.new (w5.alloc (.cells #[.int .i64 x5, .int .i64 y5, .slice sa sn sk] 48)) #[.int .i64 c5, .slice ea en ek] 34; rw [show (w5.alloc (.cells #[.int .i64 x5, .int .i64 y5, .slice sa sn sk] 48)).heap.size = w5.heap.size + 1 by simp] at hbb; exact hbb) (((Kp.of_ext (Ext.refl wr).drew).trans hkA).ext (((Ext.refl w5).alloc (.cells #[.int .i64 x5, .int .i64 y5, .slice sa sn sk] 48)).alloc (.cells #[.int .i64 c5, .slice ea en ek] 34))) (hr5.ext (((Ext.refl w5).alloc (.cells #[.int .i64 x5, .int .i64 y5, .slice sa sn sk] 48)).alloc (.cells #[.int .i64 c5, .slice ea en ek] 34))) (he5.ext (((Ext.refl w5).alloc (.cells #[.int .i64 x5, .int .i64 y5, .slice sa sn sk] 48)).alloc (.cells #[.int .i64 c5, .slice ea en ek] 34))) (gq_ext hg5 (((Ext.refl w5).alloc (.cells #[.int .i64 x5, .int .i64 y5, .slice sa sn sk] 48)).alloc (.cells #[.int .i64 c5, .slice ea en ek] 34)) (Ext.refl wr).drew.size)⟩
            · -- 16
              go_simp
              refine hK.out _ _ (KS.out _ (by repeat (first | (with_reducible exact KP5) | (with_reducible exact KPF) | (with_reducible exact KPG) | (with_reducible exact KPX) | (with_reducible exact KPY) | (with_reducible refine Kp.ext ?_ ((Ext.refl _).drew)) | (with_reducible refine Kp.ext ?_ ((Ext.refl _).alloc _)) | (with_reducible refine Kp.fresh15 ?_ (by first | exact Nat.le_refl _ | exact hle5 | exact Nat.le_succ _ | omega) _ _)))) (fun hHeld => ?_)
              clear hK K
              try simp only [Act.put, List.setIfInBounds_toArray, List.set_cons_zero, List.set_cons_succ]
              refine wpAnyH_ready (rs := [15]) (by kernel_rfl) (by simp) ?_
              refine AllReadyH.cons (o := { dst := some 8, op := Op.alloc 48, type := 0, pos := "ref.go:121", after := #[], guard := none }) rfl (fun K hK => ?_) AllReadyH.nil
              · -- 15
                go_simp
                refine hK.out _ _ (KS.out _ (by repeat (first | (with_reducible exact KP5) | (with_reducible exact KPF) | (with_reducible exact KPG) | (with_reducible exact KPX) | (with_reducible exact KPY) | (with_reducible refine Kp.ext ?_ ((Ext.refl _).drew)) | (with_reducible refine Kp.ext ?_ ((Ext.refl _).alloc _)) | (with_reducible refine Kp.fresh15 ?_ (by first | exact Nat.le_refl _ | exact hle5 | exact Nat.le_succ _ | omega) _ _)))) (fun hHeld => ?_)
                clear hK K
                try simp only [Act.put, List.setIfInBounds_toArray, List.set_cons_zero, List.set_cons_succ]
                refine wpAnyH_ready (rs := [17]) (by kernel_rfl) (by simp) ?_
                refine AllReadyH.cons (o := { dst := none, op := Op.store 48 (Operand.tmp 8) (Operand.tmp 90), type := 0, pos := "ref.go:121", after := #[{ on := 15, ground := Ground.data }, { on := 13, ground := Ground.data }, { on := 11, ground := Ground.chain }, { on := 0, ground := Ground.phase }, { on := 1, ground := Ground.phase }, { on := 2, ground := Ground.phase }, { on := 3, ground := Ground.phase }, { on := 4, ground := Ground.phase }, { on := 5, ground := Ground.phase }, { on := 6, ground := Ground.phase }, { on := 7, ground := Ground.phase }, { on := 8, ground := Ground.phase }, { on := 9, ground := Ground.phase }, { on := 10, ground := Ground.phase }, { on := 11, ground := Ground.phase }, { on := 12, ground := Ground.phase }, { on := 13, ground := Ground.phase }, { on := 14, ground := Ground.textOnly Departure.lateStores }, { on := 15, ground := Ground.phase }, { on := 16, ground := Ground.phase }], guard := none }) rfl (fun K hK => ?_) AllReadyH.nil
                go_simp
                refine hK.out _ _ (KS.out _ (by repeat (first | (with_reducible exact KP5) | (with_reducible exact KPF) | (with_reducible exact KPG) | (with_reducible exact KPX) | (with_reducible exact KPY) | (with_reducible refine Kp.ext ?_ ((Ext.refl _).drew)) | (with_reducible refine Kp.ext ?_ ((Ext.refl _).alloc _)) | (with_reducible refine Kp.fresh15 ?_ (by first | exact Nat.le_refl _ | exact hle5 | exact Nat.le_succ _ | omega) _ _)))) (fun hHeld => ?_)
                clear hK K
                try simp only [Act.put, List.setIfInBounds_toArray, List.set_cons_zero, List.set_cons_succ]
                refine wpAnyH_ready (rs := [18]) (by kernel_rfl) (by simp) ?_
                refine AllReadyH.cons (o := { dst := none, op := Op.store 34 (Operand.tmp 9) (Operand.tmp 91), type := 0, pos := "ref.go:121", after := #[{ on := 16, ground := Ground.data }, { on := 14, ground := Ground.data }, { on := 17, ground := Ground.chain }, { on := 0, ground := Ground.phase }, { on := 1, ground := Ground.phase }, { on := 2, ground := Ground.phase }, { on := 3, ground := Ground.phase }, { on := 4, ground := Ground.phase }, { on := 5, ground := Ground.phase }, { on := 6, ground := Ground.phase }, { on := 7, ground := Ground.phase }, { on := 8, ground := Ground.phase }, { on := 9, ground := Ground.phase }, { on := 10, ground := Ground.phase }, { on := 11, ground := Ground.phase }, { on := 12, ground := Ground.phase }, { on := 13, ground := Ground.phase }, { on := 14, ground := Ground.phase }, { on := 15, ground := Ground.phase }, { on := 16, ground := Ground.phase }, { on := 17, ground := Ground.phase }], guard := none }) rfl (fun K hK => ?_) AllReadyH.nil
                go_simp
                refine hK.out _ _ (KS.out _ (by repeat (first | (with_reducible exact KP5) | (with_reducible exact KPF) | (with_reducible exact KPG) | (with_reducible exact KPX) | (with_reducible exact KPY) | (with_reducible refine Kp.ext ?_ ((Ext.refl _).drew)) | (with_reducible refine Kp.ext ?_ ((Ext.refl _).alloc _)) | (with_reducible refine Kp.fresh15 ?_ (by first | exact Nat.le_refl _ | exact hle5 | exact Nat.le_succ _ | omega) _ _)))) (fun hHeld => ?_)
                clear hK K
                try simp only [Act.put, List.setIfInBounds_toArray, List.set_cons_zero, List.set_cons_succ]
                refine wpAnyH_done (by kernel_rfl) ?_ _
                go_wp2_with fail
                go_meet
                exact ⟨_, _, rfl, rfl, gq_new (by have hbb := BoxIs.new (w5.alloc (.cells #[.int .i64 c5, .slice ea en ek] 34)) #[.int .i64 x5, .int .i64 y5, .slice sa sn sk] 48; rw [show (w5.alloc (.cells #[.int .i64 c5, .slice ea en ek] 34)).heap.size = w5.heap.size + 1 by simp] at hbb; exact hbb) ((BoxIs.new w5 #[.int .i64 c5, .slice ea en ek] 34).ext ((Ext.refl _).alloc (.cells #[.int .i64 x5, .int .i64 y5, .slice sa sn sk] 48))) (((Kp.of_ext (Ext.refl wr).drew).trans hkA).ext (((Ext.refl w5).alloc (.cells #[.int .i64 c5, .slice ea en ek] 34)).alloc (.cells #[.int .i64 x5, .int .i64 y5, .slice sa sn sk] 48))) (hr5.ext (((Ext.refl w5).alloc (.cells #[.int .i64 c5, .slice ea en ek] 34)).alloc (.cells #[.int .i64 x5, .int .i64 y5, .slice sa sn sk] 48))) (he5.ext (((Ext.refl w5).alloc (.cells #[.int .i64 c5, .slice ea en ek] 34)).alloc (.cells #[.int .i64 x5, .int .i64 y5, .slice sa sn sk] 48))) (gq_ext hg5 (((Ext.refl w5).alloc (.cells #[.int .i64 c5, .slice ea en ek] 34)).alloc (.cells #[.int .i64 x5, .int .i64 y5, .slice sa sn sk] 48)) (Ext.refl wr).drew.size)⟩
          · -- 15
            go_simp
            refine hK.out _ _ (KS.out _ (by repeat (first | (with_reducible exact KP5) | (with_reducible exact KPF) | (with_reducible exact KPG) | (with_reducible exact KPX) | (with_reducible exact KPY) | (with_reducible refine Kp.ext ?_ ((Ext.refl _).drew)) | (with_reducible refine Kp.ext ?_ ((Ext.refl _).alloc _)) | (with_reducible refine Kp.fresh15 ?_ (by first | exact Nat.le_refl _ | exact hle5 | exact Nat.le_succ _ | omega) _ _)))) (fun hHeld => ?_)
            clear hK K
            try simp only [Act.put, List.setIfInBounds_toArray, List.set_cons_zero, List.set_cons_succ]
            refine wpAnyH_ready (rs := [11, 16]) (by kernel_rfl) (by simp) ?_
            refine AllReadyH.cons (o := { dst := some 89, op := Op.call { callee := Callee.value (Operand.func 39), args := #[Operand.tmp 78, Operand.tmp 83, Operand.tmp 88], argTypes := #[81, 3, 3] }, type := 84, pos := "ref.go:121", after := #[{ on := 0, ground := Ground.data }, { on := 5, ground := Ground.data }, { on := 10, ground := Ground.data }], guard := none }) rfl (fun K hK => ?_) (AllReadyH.cons (o := { dst := some 9, op := Op.alloc 34, type := 0, pos := "ref.go:121", after := #[], guard := none }) rfl (fun K hK => ?_) AllReadyH.nil)
            · -- 11
              go_simp
              go_at_call 39
              refine U2.out.mono ?_
              rintro e w5 ⟨x5, y5, sa, sn, sk, c5, u5, rfl, hkB, hr5, he5, hg5⟩
              obtain ⟨ea, en, ek, rfl⟩ := rerr_form15 he5
              have hne : ¬ wr.heap.size = w5.heap.size := (by have := hkB.size; simp at this; omega)
              have hne' : ¬ w5.heap.size = wr.heap.size := (fun e => hne e.symm)
              have hbF := BF2.out.kp hkB (by omega)
              have q0 : w5.cell? ⟨wr.heap.size, 0, none⟩ = some (.int .i64 0) := hbF.cell (i := 0) rfl
              have q1 : w5.cell? ⟨wr.heap.size, 1, none⟩ = some (.int .i64 0) := hbF.cell (i := 1) rfl
              have q2 : w5.cell? ⟨wr.heap.size, 2, none⟩ = some (.slice none 0 0) := hbF.cell (i := 2) rfl
              have f0 := hbF.free (i := 0)
              have f1 := hbF.free (i := 1)
              have f2 := hbF.free (i := 2)
              have jd := hbF.ext ((Ext.refl w5).alloc (.cells #[.int .i64 0, .slice none 0 0] 34))
              have jdc0 : (w5.alloc (.cells #[.int .i64 0, .slice none 0 0] 34)).cell? ⟨wr.heap.size, 0, none⟩ = some (.int .i64 0) := jd.cell (i := 0) rfl
              have jdf0 := jd.free (i := 0)
              have jdc1 : (w5.alloc (.cells #[.int .i64 0, .slice none 0 0] 34)).cell? ⟨wr.heap.size, 1, none⟩ = some (.int .i64 0) := jd.cell (i := 1) rfl
              have jdf1 := jd.free (i := 1)
              have jdc2 : (w5.alloc (.cells #[.int .i64 0, .slice none 0 0] 34)).cell? ⟨wr.heap.size, 2, none⟩ = some (.slice none 0 0) := jd.cell (i := 2) rfl
              have jdf2 := jd.free (i := 2)
              have KP5 := (Kp.of_ext F1.out.drew).trans hkB
              have hle5 := KP5.size
              refine hK.out _ _ (KS.out _ KP5) (fun hHeld => ?_)
              clear hK K
              try simp only [Act.put, List.setIfInBounds_toArray, List.set_cons_zero, List.set_cons_succ]
              refine wpAnyH_take (i := 12) (oi := { dst := some 77, op := Op.move (Operand.tmp 89), type := 84, pos := "ref.go:121", after := #[{ on := 11, ground := Ground.data }], guard := none }) (v := ?_) rfl (by kernel_rfl) (by kernel_rfl) (by kernel_rfl) (fun _ _ _ h => h) (Or.inl ⟨by rfl, ?_⟩) (by assumption) ?_
              case refine_2 => (intro w hSw; (try dsimp only at hSw); go_simp; (try with_reducible rfl))
              try simp only [Act.put, List.setIfInBounds_toArray, List.set_cons_zero, List.set_cons_succ]
              refine wpAnyH_take (i := 13) (oi := { dst := some 90, op := Op.extract (Operand.tmp 77) 0, type := 48, pos := "ref.go:121", after := #[{ on := 12, ground := Ground.data }], guard := none }) (v := ?_) rfl (by kernel_rfl) (by kernel_rfl) (by kernel_rfl) (fun _ _ _ h => h) (Or.inl ⟨by rfl, ?_⟩) (by assumption) ?_
              case refine_2 => (intro w hSw; (try dsimp only at hSw); go_simp; (try with_reducible rfl))
              try simp only [Act.put, List.setIfInBounds_toArray, List.set_cons_zero, List.set_cons_succ]
              refine wpAnyH_take (i := 14) (oi := { dst := some 91, op := Op.extract (Operand.tmp 77) 1, type := 34, pos := "ref.go:121", after := #[{ on := 12, ground := Ground.data }, { on := 17, ground := Ground.gcOnly Departure.lateStores }], guard := none }) (v := ?_) rfl (by kernel_rfl) (by kernel_rfl) (by kernel_rfl) (fun _ _ _ h => h) (Or.inl ⟨by rfl, ?_⟩) (by assumption) ?_
              case refine_2 => (intro w hSw; (try dsimp only at hSw); go_simp; (try with_reducible rfl))
              try simp only [Act.put, List.setIfInBounds_toArray, List.set_cons_zero, List.set_cons_succ]
              refine wpAnyH_ready (rs := [16]) (by kernel_rfl) (by simp) ?_
              refine AllReadyH.cons (o := { dst := some 9, op := Op.alloc 34, type := 0, pos := "ref.go:121", after := #[], guard := none }) rfl (fun K hK => ?_) AllReadyH.nil
              · -- 16
                go_simp
                refine hK.out _ _ (KS.out _ (by repeat (first | (with_reducible exact KP5) | (with_reducible exact KPF) | (with_reducible exact KPG) | (with_reducible exact KPX) | (with_reducible exact KPY) | (with_reducible refine Kp.ext ?_ ((Ext.refl _).drew)) | (with_reducible refine Kp.ext ?_ ((Ext.refl _).alloc _)) | (with_reducible refine Kp.fresh15 ?_ (by first | exact Nat.le_refl _ | exact hle5 | exact Nat.le_succ _ | omega) _ _)))) (fun hHeld => ?_)
                clear hK K
                try simp only [Act.put, List.setIfInBounds_toArray, List.set_cons_zero, List.set_cons_succ]
                refine wpAnyH_ready (rs := [17]) (by kernel_rfl) (by simp) ?_
                refine AllReadyH.cons (o := { dst := none, op := Op.store 48 (Operand.tmp 8) (Operand.tmp 90), type := 0, pos := "ref.go:121", after := #[{ on := 15, ground := Ground.data }, { on := 13, ground := Ground.data }, { on := 11, ground := Ground.chain }, { on := 0, ground := Ground.phase }, { on := 1, ground := Ground.phase }, { on := 2, ground := Ground.phase }, { on := 3, ground := Ground.phase }, { on := 4, ground := Ground.phase }, { on := 5, ground := Ground.phase }, { on := 6, ground := Ground.phase }, { on := 7, ground := Ground.phase }, { on := 8, ground := Ground.phase }, { on := 9, ground := Ground.phase }, { on := 10, ground := Ground.phase }, { on := 11, ground := Ground.phase }, { on := 12, ground := Ground.phase }, { on := 13, ground := Ground.phase }, { on := 14, ground := Ground.textOnly Departure.lateStores }, { on := 15, ground := Ground.phase }, { on := 16, ground := Ground.phase }], guard := none }) rfl (fun K hK => ?_) AllReadyH.nil
                go_simp
                refine hK.out _ _ (KS.out _ ((((KP5.ext ((Ext.refl w5).alloc (.cells #[.int .i64 0, .slice none 0 0] 34))).fresh15 (R := wr.heap.size) (Nat.le_refl _) 0 (.int .i64 x5)).fresh15 (R := wr.heap.size) (Nat.le_refl _) 1 (.int .i64 y5)).fresh15 (R := wr.heap.size) (Nat.le_refl _) 2 (.slice sa sn sk))) (fun hHeld => ?_)
                clear hK K
                try simp only [Act.put, List.setIfInBounds_toArray, List.set_cons_zero, List.set_cons_succ]
                refine wpAnyH_ready (rs := [18]) (by kernel_rfl) (by simp) ?_
                refine AllReadyH.cons (o := { dst := none, op := Op.store 34 (Operand.tmp 9) (Operand.tmp 91), type := 0, pos := "ref.go:121", after := #[{ on := 16, ground := Ground.data }, { on := 14, ground := Ground.data }, { on := 17, ground := Ground.chain }, { on := 0, ground := Ground.phase }, { on := 1, ground := Ground.phase }, { on := 2, ground := Ground.phase }, { on := 3, ground := Ground.phase }, { on := 4, ground := Ground.phase }, { on := 5, ground := Ground.phase }, { on := 6, ground := Ground.phase }, { on := 7, ground := Ground.phase }, { on := 8, ground := Ground.phase }, { on := 9, ground := Ground.phase }, { on := 10, ground := Ground.phase }, { on := 11, ground := Ground.phase }, { on := 12, ground := Ground.phase }, { on := 13, ground := Ground.phase }, { on := 14, ground := Ground.phase }, { on := 15, ground := Ground.phase }, { on := 16, ground := Ground.phase }, { on := 17, ground := Ground.phase }], guard := none }) rfl (fun K hK => ?_) AllReadyH.nil
                go_simp
                refine hK.out _ _ (KS.out _ ((((((KP5.ext ((Ext.refl w5).alloc (.cells #[.int .i64 0, .slice none 0 0] 34))).fresh15 (R := wr.heap.size) (Nat.le_refl _) 0 (.int .i64 x5)).fresh15 (R := wr.heap.size) (Nat.le_refl _) 1 (.int .i64 y5)).fresh15 (R := wr.heap.size) (Nat.le_refl _) 2 (.slice sa sn sk)).fresh15 (R := w5.heap.size) (hle5) 0 (.int .i64 c5)).fresh15 (R := w5.heap.size) (hle5) 1 (.slice ea en ek))) (fun hHeld => ?_)
                clear hK K
                try simp only [Act.put, List.setIfInBounds_toArray, List.set_cons_zero, List.set_cons_succ]
                refine wpAnyH_done (by kernel_rfl) ?_ _
                go_wp2_with fail
                go_meet
                exact ⟨_, _, rfl, rfl, gq_set (hbF.ext ((Ext.refl w5).alloc (.cells #[.int .i64 0, .slice none 0 0] 34))) (RBox.new w5) hne (((Kp.of_ext F1.out.drew).trans hkB).ext ((Ext.refl w5).alloc (.cells #[.int .i64 0, .slice none 0 0] 34))) (hr5.ext ((Ext.refl w5).alloc (.cells #[.int .i64 0, .slice none 0 0] 34))) (he5.ext ((Ext.refl w5).alloc (.cells #[.int .i64 0, .slice none 0 0] 34))) (by omega) (by omega) hbr (gq_ext hg5 ((Ext.refl w5).alloc (.cells #[.int .i64 0, .slice none 0 0] 34)) F1.out.drew.size)⟩
            · -- 16
              go_simp
              refine hK.out _ _ (KS.out _ (by repeat (first | (with_reducible exact KP5) | (with_reducible exact KPF) | (with_reducible exact KPG) | (with_reducible exact KPX) | (with_reducible exact KPY) | (with_reducible refine Kp.ext ?_ ((Ext.refl _).drew)) | (with_reducible refine Kp.ext ?_ ((Ext.refl _).alloc _)) | (with_reducible refine Kp.fresh15 ?_ (by first | exact Nat.le_refl _ | exact hle5 | exact Nat.le_succ _ | omega) _ _)))) (fun hHeld => ?_)
              clear hK K
              try simp only [Act.put, List.setIfInBounds_toArray, List.set_cons_zero, List.set_cons_succ]
              refine wpAnyH_ready (rs := [11]) (by kernel_rfl) (by simp) ?_
              refine AllReadyH.cons (o := { dst := some 89, op := Op.call { callee := Callee.value (Operand.func 39), args := #[Operand.tmp 78, Operand.tmp 83, Operand.tmp 88], argTypes := #[81, 3, 3] }, type := 84, pos := "ref.go:121", after := #[{ on := 0, ground := Ground.data }, { on := 5, ground := Ground.data }, { on := 10, ground := Ground.data }], guard := none }) rfl (fun K hK => ?_) AllReadyH.nil
              · -- 11
                go_simp
                go_at_call 39
                refine U4.out.mono ?_
                rintro e w5 ⟨x5, y5, sa, sn, sk, c5, u5, rfl, hkD, hr5, he5, hg5⟩
                obtain ⟨ea, en, ek, rfl⟩ := rerr_form15 he5
                have hbF := BF4.out.kp hkD (by omega)
                have q0 : w5.cell? ⟨wr.heap.size, 0, none⟩ = some (.int .i64 0) := hbF.cell (i := 0) rfl
                have q1 : w5.cell? ⟨wr.heap.size, 1, none⟩ = some (.int .i64 0) := hbF.cell (i := 1) rfl
                have q2 : w5.cell? ⟨wr.heap.size, 2, none⟩ = some (.slice none 0 0) := hbF.cell (i := 2) rfl
                have f0 := hbF.free (i := 0)
                have f1 := hbF.free (i := 1)
                have f2 := hbF.free (i := 2)
                have hbE := BE4.out.kp hkD (by omega)
                have m0 : w5.cell? ⟨wr.heap.size + 1, 0, none⟩ = some (.int .i64 0) := hbE.cell (i := 0) rfl
                have m1 : w5.cell? ⟨wr.heap.size + 1, 1, none⟩ = some (.slice none 0 0) := hbE.cell (i := 1) rfl
                have f3 := hbE.free (i := 0)
                have f4 := hbE.free (i := 1)
                have KP5 := (Kp.of_ext FG.out.drew).trans hkD
                have hle5 := KP5.size
                refine hK.out _ _ (KS.out _ KP5) (fun hHeld => ?_)
                clear hK K
                try simp only [Act.put, List.setIfInBounds_toArray, List.set_cons_zero, List.set_cons_succ]
                refine wpAnyH_take (i := 12) (oi := { dst := some 77, op := Op.move (Operand.tmp 89), type := 84, pos := "ref.go:121", after := #[{ on := 11, ground := Ground.data }], guard := none }) (v := ?_) rfl (by kernel_rfl) (by kernel_rfl) (by kernel_rfl) (fun _ _ _ h => h) (Or.inl ⟨by rfl, ?_⟩) (by assumption) ?_
                case refine_2 => (intro w hSw; (try dsimp only at hSw); go_simp; (try with_reducible rfl))
                try simp only [Act.put, List.setIfInBounds_toArray, List.set_cons_zero, List.set_cons_succ]
                refine wpAnyH_take (i := 13) (oi := { dst := some 90, op := Op.extract (Operand.tmp 77) 0, type := 48, pos := "ref.go:121", after := #[{ on := 12, ground := Ground.data }], guard := none }) (v := ?_) rfl (by kernel_rfl) (by kernel_rfl) (by kernel_rfl) (fun _ _ _ h => h) (Or.inl ⟨by rfl, ?_⟩) (by assumption) ?_
                case refine_2 => (intro w hSw; (try dsimp only at hSw); go_simp; (try with_reducible rfl))
                try simp only [Act.put, List.setIfInBounds_toArray, List.set_cons_zero, List.set_cons_succ]
                refine wpAnyH_take (i := 14) (oi := { dst := some 91, op := Op.extract (Operand.tmp 77) 1, type := 34, pos := "ref.go:121", after := #[{ on := 12, ground := Ground.data }, { on := 17, ground := Ground.gcOnly Departure.lateStores }], guard := none }) (v := ?_) rfl (by kernel_rfl) (by kernel_rfl) (by kernel_rfl) (fun _ _ _ h => h) (Or.inl ⟨by rfl, ?_⟩) (by assumption) ?_
                case refine_2 => (intro w hSw; (try dsimp only at hSw); go_simp; (try with_reducible rfl))
                try simp only [Act.put, List.setIfInBounds_toArray, List.set_cons_zero, List.set_cons_succ]
                refine wpAnyH_ready (rs := [17]) (by kernel_rfl) (by simp) ?_
                refine AllReadyH.cons (o := { dst := none, op := Op.store 48 (Operand.tmp 8) (Operand.tmp 90), type := 0, pos := "ref.go:121", after := #[{ on := 15, ground := Ground.data }, { on := 13, ground := Ground.data }, { on := 11, ground := Ground.chain }, { on := 0, ground := Ground.phase }, { on := 1, ground := Ground.phase }, { on := 2, ground := Ground.phase }, { on := 3, ground := Ground.phase }, { on := 4, ground := Ground.phase }, { on := 5, ground := Ground.phase }, { on := 6, ground := Ground.phase }, { on := 7, ground := Ground.phase }, { on := 8, ground := Ground.phase }, { on := 9, ground := Ground.phase }, { on := 10, ground := Ground.phase }, { on := 11, ground := Ground.phase }, { on := 12, ground := Ground.phase }, { on := 13, ground := Ground.phase }, { on := 14, ground := Ground.textOnly Departure.lateStores }, { on := 15, ground := Ground.phase }, { on := 16, ground := Ground.phase }], guard := none }) rfl (fun K hK => ?_) AllReadyH.nil
                go_simp
                refine hK.out _ _ (KS.out _ (((KP5.fresh15 (R := wr.heap.size) (Nat.le_refl _) 0 (.int .i64 x5)).fresh15 (R := wr.heap.size) (Nat.le_refl _) 1 (.int .i64 y5)).fresh15 (R := wr.heap.size) (Nat.le_refl _) 2 (.slice sa sn sk))) (fun hHeld => ?_)
                clear hK K
                try simp only [Act.put, List.setIfInBounds_toArray, List.set_cons_zero, List.set_cons_succ]
                refine wpAnyH_ready (rs := [18]) (by kernel_rfl) (by simp) ?_
                refine AllReadyH.cons (o := { dst := none, op := Op.store 34 (Operand.tmp 9) (Operand.tmp 91), type := 0, pos := "ref.go:121", after := #[{ on := 16, ground := Ground.data }, { on := 14, ground := Ground.data }, { on := 17, ground := Ground.chain }, { on := 0, ground := Ground.phase }, { on := 1, ground := Ground.phase }, { on := 2, ground := Ground.phase }, { on := 3, ground := Ground.phase }, { on := 4, ground := Ground.phase }, { on := 5, ground := Ground.phase }, { on := 6, ground := Ground.phase }, { on := 7, ground := Ground.phase }, { on := 8, ground := Ground.phase }, { on := 9, ground := Ground.phase }, { on := 10, ground := Ground.phase }, { on := 11, ground := Ground.phase }, { on := 12, ground := Ground.phase }, { on := 13, ground := Ground.phase }, { on := 14, ground := Ground.phase }, { on := 15, ground := Ground.phase }, { on := 16, ground := Ground.phase }, { on := 17, ground := Ground.phase }], guard := none }) rfl (fun K hK => ?_) AllReadyH.nil
                go_simp
                refine hK.out _ _ (KS.out _ (((((KP5.fresh15 (R := wr.heap.size) (Nat.le_refl _) 0 (.int .i64 x5)).fresh15 (R := wr.heap.size) (Nat.le_refl _) 1 (.int .i64 y5)).fresh15 (R := wr.heap.size) (Nat.le_refl _) 2 (.slice sa sn sk)).fresh15 (R := wr.heap.size + 1) (Nat.le_succ _) 0 (.int .i64 c5)).fresh15 (R := wr.heap.size + 1) (Nat.le_succ _) 1 (.slice ea en ek))) (fun hHeld => ?_)
                clear hK K
                try simp only [Act.put, List.setIfInBounds_toArray, List.set_cons_zero, List.set_cons_succ]
                refine wpAnyH_done (by kernel_rfl) ?_ _
                go_wp2_with fail
                go_meet
                exact ⟨_, _, rfl, rfl, gq_set hbF (show RBox w5 _ from hbE) (by omega) ((Kp.of_ext FG.out.drew).trans hkD) hr5 he5 (by omega) (by omega) hbr (gq_ext hg5 (Ext.refl _) FG.out.drew.size)⟩
          · -- 16
            go_simp
            refine hK.out _ _ (KS.out _ (by repeat (first | (with_reducible exact KP5) | (with_reducible exact KPF) | (with_reducible exact KPG) | (with_reducible exact KPX) | (with_reducible exact KPY) | (with_reducible refine Kp.ext ?_ ((Ext.refl _).drew)) | (with_reducible refine Kp.ext ?_ ((Ext.refl _).alloc _)) | (with_reducible refine Kp.fresh15 ?_ (by first | exact Nat.le_refl _ | exact hle5 | exact Nat.le_succ _ | omega) _ _)))) (fun hHeld => ?_)
            clear hK K
            try simp only [Act.put, List.setIfInBounds_toArray, List.set_cons_zero, List.set_cons_succ]
            refine wpAnyH_ready (rs := [11, 15]) (by kernel_rfl) (by simp) ?_
            refine AllReadyH.cons (o := { dst := some 89, op := Op.call { callee := Callee.value (Operand.func 39), args := #[Operand.tmp 78, Operand.tmp 83, Operand.tmp 88], argTypes := #[81, 3, 3] }, type := 84, pos := "ref.go:121", after := #[{ on := 0, ground := Ground.data }, { on := 5, ground := Ground.data }, { on := 10, ground := Ground.data }], guard := none }) rfl (fun K hK => ?_) (AllReadyH.cons (o := { dst := some 8, op := Op.alloc 48, type := 0, pos := "ref.go:121", after := #[], guard := none }) rfl (fun K hK => ?_) AllReadyH.nil)
            · -- 11
              go_simp
              go_at_call 39
              refine U3.out.mono ?_
              rintro e w5 ⟨x5, y5, sa, sn, sk, c5, u5, rfl, hkC, hr5, he5, hg5⟩
              obtain ⟨ea, en, ek, rfl⟩ := rerr_form15 he5
              have hne : ¬ wr.heap.size = w5.heap.size := (by have := hkC.size; simp at this; omega)
              have hne' : ¬ w5.heap.size = wr.heap.size := (fun e => hne e.symm)
              have hbE := BE3.out.kp hkC (by omega)
              have m0 : w5.cell? ⟨wr.heap.size, 0, none⟩ = some (.int .i64 0) := hbE.cell (i := 0) rfl
              have m1 : w5.cell? ⟨wr.heap.size, 1, none⟩ = some (.slice none 0 0) := hbE.cell (i := 1) rfl
              have f3 := hbE.free (i := 0)
              have f4 := hbE.free (i := 1)
              have je := hbE.ext ((Ext.refl w5).alloc (.cells #[.int .i64 x5, .int .i64 y5, .slice sa sn sk] 48))
              have jec0 : (w5.alloc (.cells #[.int .i64 x5, .int .i64 y5, .slice sa sn sk] 48)).cell? ⟨wr.heap.size, 0, none⟩ = some (.int .i64 0) := je.cell (i := 0) rfl
              have jef0 := je.free (i := 0)
              have jec1 : (w5.alloc (.cells #[.int .i64 x5, .int .i64 y5, .slice sa sn sk] 48)).cell? ⟨wr.heap.size, 1, none⟩ = some (.slice none 0 0) := je.cell (i := 1) rfl
              have jef1 := je.free (i := 1)
              have KP5 := (Kp.of_ext G1.out.drew).trans hkC
              have hle5 := KP5.size
              refine hK.out _ _ (KS.out _ KP5) (fun hHeld => ?_)
              clear hK K
              try simp only [Act.put, List.setIfInBounds_toArray, List.set_cons_zero, List.set_cons_succ]
              refine wpAnyH_take (i := 12) (oi := { dst := some 77, op := Op.move (Operand.tmp 89), type := 84, pos := "ref.go:121", after := #[{ on := 11, ground := Ground.data }], guard := none }) (v := ?_) rfl (by kernel_rfl) (by kernel_rfl) (by kernel_rfl) (fun _ _ _ h => h) (Or.inl ⟨by rfl, ?_⟩) (by assumption) ?_
              case refine_2 => (intro w hSw; (try dsimp only at hSw); go_simp; (try with_reducible rfl))
              try simp only [Act.put, List.setIfInBounds_toArray, List.set_cons_zero, List.set_cons_succ]
              refine wpAnyH_take (i := 13) (oi := { dst := some 90, op := Op.extract (Operand.tmp 77) 0, type := 48, pos := "ref.go:121", after := #[{ on := 12, ground := Ground.data }], guard := none }) (v := ?_) rfl (by kernel_rfl) (by kernel_rfl) (by kernel_rfl) (fun _ _ _ h => h) (Or.inl ⟨by rfl, ?_⟩) (by assumption) ?_
              case refine_2 => (intro w hSw; (try dsimp only at hSw); go_simp; (try with_reducible rfl))
              try simp only [Act.put, List.setIfInBounds_toArray, List.set_cons_zero, List.set_cons_succ]
              refine wpAnyH_take (i := 14) (oi := { dst := some 91, op := Op.extract (Operand.tmp 77) 1, type := 34, pos := "ref.go:121", after := #[{ on := 12, ground := Ground.data }, { on := 17, ground := Ground.gcOnly Departure.lateStores }], guard := none }) (v := ?_) rfl (by kernel_rfl) (by kernel_rfl) (by kernel_rfl) (fun _ _ _ h => h) (Or.inl ⟨by rfl, ?_⟩) (by assumption) ?_
              case refine_2 => (intro w hSw; (try dsimp only at hSw); go_simp; (try with_reducible rfl))
              try simp only [Act.put, List.setIfInBounds_toArray, List.set_cons_zero, List.set_cons_succ]
              refine wpAnyH_ready (rs := [15]) (by kernel_rfl) (by simp) ?_
              refine AllReadyH.cons (o := { dst := some 8, op := Op.alloc 48, type := 0, pos := "ref.go:121", after := #[], guard := none }) rfl (fun K hK => ?_) AllReadyH.nil
              · -- 15
                go_simp
                refine hK.out _ _ (KS.out _ (by repeat (first | (with_reducible exact KP5) | (with_reducible exact KPF) | (with_reducible exact KPG) | (with_reducible exact KPX) | (with_reducible exact KPY) | (with_reducible refine Kp.ext ?_ ((Ext.refl _).drew)) | (with_reducible refine Kp.ext ?_ ((Ext.refl _).alloc _)) | (with_reducible refine Kp.fresh15 ?_ (by first | exact Nat.le_refl _ | exact hle5 | exact Nat.le_succ _ | omega) _ _)))) (fun hHeld => ?_)
                clear hK K
                try simp only [Act.put, List.setIfInBounds_toArray, List.set_cons_zero, List.set_cons_succ]
                refine wpAnyH_ready (rs := [17]) (by kernel_rfl) (by simp) ?_
                refine AllReadyH.cons (o := { dst := none, op := Op.store 48 (Operand.tmp 8) (Operand.tmp 90), type := 0, pos := "ref.go:121", after := #[{ on := 15, ground := Ground.data }, { on := 13, ground := Ground.data }, { on := 11, ground := Ground.chain }, { on := 0, ground := Ground.phase }, { on := 1, ground := Ground.phase }, { on := 2, ground := Ground.phase }, { on := 3, ground := Ground.phase }, { on := 4, ground := Ground.phase }, { on := 5, ground := Ground.phase }, { on := 6, ground := Ground.phase }, { on := 7, ground := Ground.phase }, { on := 8, ground := Ground.phase }, { on := 9, ground := Ground.phase }, { on := 10, ground := Ground.phase }, { on := 11, ground := Ground.phase }, { on := 12, ground := Ground.phase }, { on := 13, ground := Ground.phase }, { on := 14, ground := Ground.textOnly Departure.lateStores }, { on := 15, ground := Ground.phase }, { on := 16, ground := Ground.phase }], guard := none }) rfl (fun K hK => ?_) AllReadyH.nil
                go_simp
                refine hK.out _ _ (KS.out _ (by repeat (first | (with_reducible exact KP5) | (with_reducible exact KPF) | (with_reducible exact KPG) | (with_reducible exact KPX) | (with_reducible exact KPY) | (with_reducible refine Kp.ext ?_ ((Ext.refl _).drew)) | (with_reducible refine Kp.ext ?_ ((Ext.refl _).alloc _)) | (with_reducible refine Kp.fresh15 ?_ (by first | exact Nat.le_refl _ | exact hle5 | exact Nat.le_succ _ | omega) _ _)))) (fun hHeld => ?_)
                clear hK K
                try simp only [Act.put, List.setIfInBounds_toArray, List.set_cons_zero, List.set_cons_succ]
                refine wpAnyH_ready (rs := [18]) (by kernel_rfl) (by simp) ?_
                refine AllReadyH.cons (o := { dst := none, op := Op.store 34 (Operand.tmp 9) (Operand.tmp 91), type := 0, pos := "ref.go:121", after := #[{ on := 16, ground := Ground.data }, { on := 14, ground := Ground.data }, { on := 17, ground := Ground.chain }, { on := 0, ground := Ground.phase }, { on := 1, ground := Ground.phase }, { on := 2, ground := Ground.phase }, { on := 3, ground := Ground.phase }, { on := 4, ground := Ground.phase }, { on := 5, ground := Ground.phase }, { on := 6, ground := Ground.phase }, { on := 7, ground := Ground.phase }, { on := 8, ground := Ground.phase }, { on := 9, ground := Ground.phase }, { on := 10, ground := Ground.phase }, { on := 11, ground := Ground.phase }, { on := 12, ground := Ground.phase }, { on := 13, ground := Ground.phase }, { on := 14, ground := Ground.phase }, { on := 15, ground := Ground.phase }, { on := 16, ground := Ground.phase }, { on := 17, ground := Ground.phase }], guard := none }) rfl (fun K hK => ?_) AllReadyH.nil
                go_simp
                refine hK.out _ _ (KS.out _ (by repeat (first | (with_reducible exact KP5) | (with_reducible exact KPF) | (with_reducible exact KPG) | (with_reducible exact KPX) | (with_reducible exact KPY) | (with_reducible refine Kp.ext ?_ ((Ext.refl _).drew)) | (with_reducible refine Kp.ext ?_ ((Ext.refl _).alloc _)) | (with_reducible refine Kp.fresh15 ?_ (by first | exact Nat.le_refl _ | exact hle5 | exact Nat.le_succ _ | omega) _ _)))) (fun hHeld => ?_)
                clear hK K
                try simp only [Act.put, List.setIfInBounds_toArray, List.set_cons_zero, List.set_cons_succ]
                refine wpAnyH_done (by kernel_rfl) ?_ _
                go_wp2_with fail
                go_meet
                exact ⟨_, _, rfl, rfl, gq_setE (BoxIs.new w5 #[.int .i64 x5, .int .i64 y5, .slice sa sn sk] 48) (show RBox (w5.alloc (.cells #[.int .i64 x5, .int .i64 y5, .slice sa sn sk] 48)) _ from hbE.ext ((Ext.refl w5).alloc (.cells #[.int .i64 x5, .int .i64 y5, .slice sa sn sk] 48))) hne' (((Kp.of_ext G1.out.drew).trans hkC).ext ((Ext.refl w5).alloc (.cells #[.int .i64 x5, .int .i64 y5, .slice sa sn sk] 48))) (hr5.ext ((Ext.refl w5).alloc (.cells #[.int .i64 x5, .int .i64 y5, .slice sa sn sk] 48))) (he5.ext ((Ext.refl w5).alloc (.cells #[.int .i64 x5, .int .i64 y5, .slice sa sn sk] 48))) (by omega) hbr (gq_ext hg5 ((Ext.refl w5).alloc (.cells #[.int .i64 x5, .int .i64 y5, .slice sa sn sk] 48)) G1.out.drew.size)⟩
            · -- 15
              go_simp
              refine hK.out _ _ (KS.out _ (by repeat (first | (with_reducible exact KP5) | (with_reducible exact KPF) | (with_reducible exact KPG) | (with_reducible exact KPX) | (with_reducible exact KPY) | (with_reducible refine Kp.ext ?_ ((Ext.refl _).drew)) | (with_reducible refine Kp.ext ?_ ((Ext.refl _).alloc _)) | (with_reducible refine Kp.fresh15 ?_ (by first | exact Nat.le_refl _ | exact hle5 | exact Nat.le_succ _ | omega) _ _)))) (fun hHeld => ?_)
              clear hK K
              try simp only [Act.put, List.setIfInBounds_toArray, List.set_cons_zero, List.set_cons_succ]
              refine wpAnyH_ready (rs := [11]) (by kernel_rfl) (by simp) ?_
              refine AllReadyH.cons (o := { dst := some 89, op := Op.call { callee := Callee.value (Operand.func 39), args := #[Operand.tmp 78, Operand.tmp 83, Operand.tmp 88], argTypes := #[81, 3, 3] }, type := 84, pos := "ref.go:121", after := #[{ on := 0, ground := Ground.data }, { on := 5, ground := Ground.data }, { on := 10, ground := Ground.data }], guard := none }) rfl (fun K hK => ?_) AllReadyH.nil
              · -- 11
                go_simp
                go_at_call 39
                refine U5.out.mono ?_
                rintro e w5 ⟨x5, y5, sa, sn, sk, c5, u5, rfl, hkE, hr5, he5, hg5⟩
                obtain ⟨ea, en, ek, rfl⟩ := rerr_form15 he5
                have hbE := BE5.out.kp hkE (by omega)
                have m0 : w5.cell? ⟨wr.heap.size, 0, none⟩ = some (.int .i64 0) := hbE.cell (i := 0) rfl
                have m1 : w5.cell? ⟨wr.heap.size, 1, none⟩ = some (.slice none 0 0) := hbE.cell (i := 1) rfl
                have f3 := hbE.free (i := 0)
                have f4 := hbE.free (i := 1)
                have hbF := BF5.out.kp hkE (by omega)
                have q0 : w5.cell? ⟨wr.heap.size + 1, 0, none⟩ = some (.int .i64 0) := hbF.cell (i := 0) rfl
                have q1 : w5.cell? ⟨wr.heap.size + 1, 1, none⟩ = some (.int .i64 0) := hbF.cell (i := 1) rfl
                have q2 : w5.cell? ⟨wr.heap.size + 1, 2, none⟩ = some (.slice none 0 0) := hbF.cell (i := 2) rfl
                have f0 := hbF.free (i := 0)
                have f1 := hbF.free (i := 1)
                have f2 := hbF.free (i := 2)
                have KP5 := (Kp.of_ext GF.out.drew).trans hkE
                have hle5 := KP5.size
                refine hK.out _ _ (KS.out _ KP5) (fun hHeld => ?_)
                clear hK K
                try simp only [Act.put, List.setIfInBounds_toArray, List.set_cons_zero, List.set_cons_succ]
                refine wpAnyH_take (i := 12) (oi := { dst := some 77, op := Op.move (Operand.tmp 89), type := 84, pos := "ref.go:121", after := #[{ on := 11, ground := Ground.data }], guard := none }) (v := ?_) rfl (by kernel_rfl) (by kernel_rfl) (by kernel_rfl) (fun _ _ _ h => h) (Or.inl ⟨by rfl, ?_⟩) (by assumption) ?_
                case refine_2 => (intro w hSw; (try dsimp only at hSw); go_simp; (try with_reducible rfl))
                try simp only [Act.put, List.setIfInBounds_toArray, List.set_cons_zero, List.set_cons_succ]
                refine wpAnyH_take (i := 13) (oi := { dst := some 90, op := Op.extract (Operand.tmp 77) 0, type := 48, pos := "ref.go:121", after := #[{ on := 12, ground := Ground.data }], guard := none }) (v := ?_) rfl (by kernel_rfl) (by kernel_rfl) (by kernel_rfl) (fun _ _ _ h => h) (Or.inl ⟨by rfl, ?_⟩) (by assumption) ?_
                case refine_2 => (intro w hSw; (try dsimp only at hSw); go_simp; (try with_reducible rfl))
                try simp only [Act.put, List.setIfInBounds_toArray, List.set_cons_zero, List.set_cons_succ]
                refine wpAnyH_take (i := 14) (oi := { dst := some 91, op := Op.extract (Operand.tmp 77) 1, type := 34, pos := "ref.go:121", after := #[{ on := 12, ground := Ground.data }, { on := 17, ground := Ground.gcOnly Departure.lateStores }], guard := none }) (v := ?_) rfl (by kernel_rfl) (by kernel_rfl) (by kernel_rfl) (fun _ _ _ h => h) (Or.inl ⟨by rfl, ?_⟩) (by assumption) ?_
                case refine_2 => (intro w hSw; (try dsimp only at hSw); go_simp; (try with_reducible rfl))
                try simp only [Act.put, List.setIfInBounds_toArray, List.set_cons_zero, List.set_cons_succ]
                refine wpAnyH_ready (rs := [17]) (by kernel_rfl) (by simp) ?_
                refine AllReadyH.cons (o := { dst := none, op := Op.store 48 (Operand.tmp 8) (Operand.tmp 90), type := 0, pos := "ref.go:121", after := #[{ on := 15, ground := Ground.data }, { on := 13, ground := Ground.data }, { on := 11, ground := Ground.chain }, { on := 0, ground := Ground.phase }, { on := 1, ground := Ground.phase }, { on := 2, ground := Ground.phase }, { on := 3, ground := Ground.phase }, { on := 4, ground := Ground.phase }, { on := 5, ground := Ground.phase }, { on := 6, ground := Ground.phase }, { on := 7, ground := Ground.phase }, { on := 8, ground := Ground.phase }, { on := 9, ground := Ground.phase }, { on := 10, ground := Ground.phase }, { on := 11, ground := Ground.phase }, { on := 12, ground := Ground.phase }, { on := 13, ground := Ground.phase }, { on := 14, ground := Ground.textOnly Departure.lateStores }, { on := 15, ground := Ground.phase }, { on := 16, ground := Ground.phase }], guard := none }) rfl (fun K hK => ?_) AllReadyH.nil
                go_simp
                refine hK.out _ _ (KS.out _ (((KP5.fresh15 (R := wr.heap.size + 1) (Nat.le_succ _) 0 (.int .i64 x5)).fresh15 (R := wr.heap.size + 1) (Nat.le_succ _) 1 (.int .i64 y5)).fresh15 (R := wr.heap.size + 1) (Nat.le_succ _) 2 (.slice sa sn sk))) (fun hHeld => ?_)
                clear hK K
                try simp only [Act.put, List.setIfInBounds_toArray, List.set_cons_zero, List.set_cons_succ]
                refine wpAnyH_ready (rs := [18]) (by kernel_rfl) (by simp) ?_
                refine AllReadyH.cons (o := { dst := none, op := Op.store 34 (Operand.tmp 9) (Operand.tmp 91), type := 0, pos := "ref.go:121", after := #[{ on := 16, ground := Ground.data }, { on := 14, ground := Ground.data }, { on := 17, ground := Ground.chain }, { on := 0, ground := Ground.phase }, { on := 1, ground := Ground.phase }, { on := 2, ground := Ground.phase }, { on := 3, ground := Ground.phase }, { on := 4, ground := Ground.phase }, { on := 5, ground := Ground.phase }, { on := 6, ground := Ground.phase }, { on := 7, ground := Ground.phase }, { on := 8, ground := Ground.phase }, { on := 9, ground := Ground.phase }, { on := 10, ground := Ground.phase }, { on := 11, ground := Ground.phase }, { on := 12, ground := Ground.phase }, { on := 13, ground := Ground.phase }, { on := 14, ground := Ground.phase }, { on := 15, ground := Ground.phase }, { on := 16, ground := Ground.phase }, { on := 17, ground := Ground.phase }], guard := none }) rfl (fun K hK => ?_) AllReadyH.nil
                go_simp
                refine hK.out _ _ (KS.out _ (((((KP5.fresh15 (R := wr.heap.size + 1) (Nat.le_succ _) 0 (.int .i64 x5)).fresh15 (R := wr.heap.size + 1) (Nat.le_succ _) 1 (.int .i64 y5)).fresh15 (R := wr.heap.size + 1) (Nat.le_succ _) 2 (.slice sa sn sk)).fresh15 (R := wr.heap.size) (Nat.le_refl _) 0 (.int .i64 c5)).fresh15 (R := wr.heap.size) (Nat.le_refl _) 1 (.slice ea en ek))) (fun hHeld => ?_)
                clear hK K
                try simp only [Act.put, List.setIfInBounds_toArray, List.set_cons_zero, List.set_cons_succ]
                refine wpAnyH_done (by kernel_rfl) ?_ _
                go_wp2_with fail
                go_meet
                exact ⟨_, _, rfl, rfl, gq_set hbF (show RBox w5 _ from hbE) (by omega) ((Kp.of_ext GF.out.drew).trans hkE) hr5 he5 (by omega) (by omega) hbr (gq_ext hg5 (Ext.refl _) GF.out.drew.size)⟩
        clear U1 U2 U3 U4 U5 F1 G1 FG GF BF2 BE3 BF4 BE4 BE5 BF5 d2 d3 d2f d3f d2g d3g d2x d3x d2y d3y
        obtain ⟨DF, DE, rfl, rfl, HGQ⟩ := hcut
        obtain ⟨x5, y5, sa, sn, sk, c5, ea, en, ek, ⟨⟨b0, b1, b2⟩, b3, b4⟩, kx, rx, ex, gx⟩ := HGQ.out
        have HD2 := Lib.hid (HD.out.kp kx rx (rdFr_le hp) hwb hbB)
        have HEX := Lib.hid ex
        have HGX := Lib.hid gx
        have hBr : B ≤ wr.heap.size := HD.out.2.2.2.2.2.1
        have HLA := Lib.hid (fun d h1 => (HD.out.2.1.lt d h1).2)
        clear HGQ kx rx ex gx
        cases hf : (rdFr (bs.drop 5) W H p).1 with
        | some fc =>
          rw [hf] at HEX
          obtain ⟨hcd, hcl⟩ := rdFr_cds (bs.drop 5) W H p fc.1 fc.2 hf
          have HRE : Hid (dcR bs = (some ((sourceS, (k : Int)) :: fc.1, fc.2), [])) := by
            show _ = _
            have h := HQ.out
            obtain ⟨m, hm⟩ : ∃ m, N - k = m + 1 := ⟨N - k - 1, by omega⟩
            rw [hm] at h
            simp only [dcL] at h
            rw [if_neg (by rw [hf]; simp), hf, HD.out.2.2.2.1] at h
            rw [HR.out, ← h, dcE_err (by simp [inF])]
            rfl
          obtain ⟨pp, cc⟩ := fc
          have hcc : c5 = cc := HEX.out.1
          have hc0 : cc ≠ 0 := HEX.out.2.1
          subst hcc
          have hcz : (c5 == 0) = false := by simpa using hc0
          have HC0 := Lib.hid hc0
          have hpl : pp.length ≤ 1000000 := by have : pp.length ≤ 1 := hcl; omega
          clear hf hcd hcl hp
          go_wp2_with fail
          refine (ok_any c5 _ _).mono ?_; rintro e w6 ⟨rfl, x6⟩
          rw [hcz]
          have b3' := x6.cell b3
          have b4' := x6.cell b4
          have HD6 := Lib.hid (HD2.out.ext x6 hwb hbB)
          have HE6 := Lib.hid (HEX.out.ext x6)
          have UI : Hid (∀ W', RErrIs W' (some (pp, c5)) c5 (.slice ea en ek) → Calls Tryz.prog 40 #[.string sourceS, .int .i64 (k : Int), .agg #[.int .i64 c5, .slice ea en ek]] W' fun e w' => ∃ u, e = .returned (.agg #[.int .i64 c5, u]) ∧ w'.ownsRow W'.heap.size 71 2 u (pp.length + 1) (stepCells ((sourceS, (k : Int)) :: pp)) ∧ Ext W' w') := fun W' hh => refIn_err sourceS (k : Int) c5 _ pp W' hh.2.2 HC0.out hpl
          clear x6 b0 b1 b2 b3 b4 HD2 HEX HGX HD HE
          go_wp2_with fail
          refine (UI.out _ HE6.out).mono ?_; rintro e w7 ⟨u7, rfl, o7, x7⟩
          obtain ⟨ua, un, uc, rfl⟩ := own_slc15 o7
          -- o7 (the path's row at W's size), x7 : Ext wA w7, HD6 : RdAtQ .. wA ..; HRE; stores into the result
          have HD7 := Lib.hid (HD6.out.ext x7 hwb hbB)
          have HBZ := Lib.hid HD7.out.2.2.2.2.2.2
          have HXZ := Lib.hid ((HD7.out.2.2.2.2.1.setCell (p := ⟨w.heap.size, 0, none⟩) (Nat.le_refl _) (.int .i64 c5)).setCell (p := ⟨w.heap.size, 1, none⟩) (Nat.le_refl _) (.slice ua un uc))
          have HRW := Lib.hid (Row.of_owns (ownsRow_setCell_below (ownsRow_setCell_below o7 (a := ⟨w.heap.size, 0, none⟩) HD6.out.2.2.2.2.2.2.lt (.int .i64 c5)) (a := ⟨w.heap.size, 1, none⟩) HD6.out.2.2.2.2.2.2.lt (.slice ua un uc)))
          obtain ⟨g0, g1, g2, g3⟩ := HBZ.out.res
          clear o7 x7
          go_wp2
          obtain ⟨y0, y1⟩ := res_cells g0 g1 (c := c5) (.slice ua un uc)
          exact bodyPost_ret (v := .tuple #[.slice none 0 0, .agg #[.int .i64 c5, .slice ua un uc]]) (by simp [results, Tryz.results15, go_sem, y0, y1]) rfl ⟨_, _, _, rfl, HXZ.out, by rw [HRE.out]; exact ⟨rfl, HC0.out, HRW.out⟩, by rw [HRE.out]; exact Fms.nil _⟩
        | none =>
          rw [hf] at HEX
          obtain ⟨hc5, hu5⟩ := HEX.out
          simp only [Value.slice.injEq] at hu5
          obtain ⟨rfl, rfl, rfl⟩ := hu5
          subst hc5
          obtain ⟨rfl, rfl, hrow⟩ := HGX.out hf
          have HRN : Hid (dcL (bs.drop 5) W H (N - (k + 1)) (L ++ [((W : Int), (H : Int), (rdFr (bs.drop 5) W H p).2.1)]) (rdFr (bs.drop 5) W H p).2.2 = dcL (bs.drop 5) W H N [] 0) := by
            show _ = _
            have h := HQ.out
            obtain ⟨m, hm⟩ : ∃ m, N - k = m + 1 := ⟨N - k - 1, by omega⟩
            rw [hm] at h
            simp only [dcL] at h
            rw [if_pos hf] at h
            rw [← h, show N - (k + 1) = m by omega]
          have HZL : Hid ((rdFr (bs.drop 5) W H p).2.1.length = W * H) := by
            show _ = _
            have h := hf
            unfold rdFr at h ⊢
            split at h
            · rename_i h2
              rw [if_pos h2, rdS_len h]
              simp
            · rename_i h2
              exact absurd h h2
          generalize (rdFr (bs.drop 5) W H p).2.1 = zs at *
          generalize (rdFr (bs.drop 5) W H p).2.2 = q at *
          have hsn : sn = W * H := by
            obtain ⟨aa, cc, ee⟩ := own_slice hrow
            simp only [Value.slice.injEq] at ee
            exact ee.2.1
          subst hsn
          have HAP : Hid (Apart u5 (.slice sa (W * H) sk)) := fun d h1 h2 => absurd (HLA.out d h1) (by have := (hrow.lt d h2).1; omega)
          have HOU : Hid (wc.ownsRow B 3 1 (.slice sa (W * H) sk) zs.length (zs.map (Value.int .i64))) := by
            show World.ownsRow _ _ _ _ _ _ _
            rw [HZL.out]
            exact own_mono hrow hBr
          obtain ⟨M, hM⟩ : ∃ M, W * H = M := ⟨_, rfl⟩
          rw [hM] at HAP HOU b2
          clear hf hp hrow HEX HGX HD HE hM HZL HLA
          go_wp2_with fail
          refine (ok_any 0 _ _).mono ?_; rintro e w6 ⟨rfl, x6⟩
          rw [show ((0 : Int) == 0) = true from rfl]
          have b0' := x6.cell b0
          have b1' := x6.cell b1
          have b2' := x6.cell b2
          have HD6 := Lib.hid (HD2.out.ext x6 hwb hbB)
          have HO6 := Lib.hid (own_ext HOU.out x6)
          have hB6 : B ≤ w6.heap.size := HD6.out.2.2.2.2.2.1
          clear x6 b0 b1 b2 b3 b4 HD2 HOU hBr
          go_wp2_with (at_builtin; refine push_fr rfl _ _ 22 rfl Tryz.underlying22 _ k _ (W : Int) (H : Int) (.slice sa M sk) rfl rfl HD6.out.2.1 (by show Value.slice (some ⟨w6.heap.size, 0, none⟩) 1 1 = _; simp) hB6 (by omega) ?_)
          intro v8 w8 h1 h2 h3
          have HD8 := Lib.hid (HD6.out.push (f := ((W : Int), (H : Int), zs)) hbB hwB HO6.out HAP.out h1 h2 h3)
          clear h1 h2 h3 b0' b1' b2'
          go_wp2_with fail
          exact ⟨⟨k + 1, _, _, q, by omega, by go_num, HD8, HRN⟩, by simp [intOf]; omega⟩
      · obtain rfl : k = N := by omega
        have t1 : ¬ (k : Int) < (k : Int) := by omega
        have HRZ : Hid (dcR bs = dcE (bs.drop 5) k (none, L, p)) := by
          show _ = _
          have h := HQ.out
          rw [Nat.sub_self] at h
          rw [HR.out, ← h]
          rfl
        obtain ⟨hRq, hp⟩ := HD.out.1
        have UA := Lib.hid (rqalign_any b p w.heap.size (bs.drop 5) wr hRq hp)
        have hq : p + alD p ≤ 8 * (bs.drop 5).length := by unfold alD; omega
        have HQL := Lib.hid hq
        have HCDA := Lib.hid (alF_cds (bs.drop 5) p (alD p))
        have HEF : Hid (endF (bs.drop 5) p = if alF (bs.drop 5) p (alD p) = none then (if p + alD p < 8 * (bs.drop 5).length then some ([], 5) else none) else alF (bs.drop 5) p (alD p)) := rfl
        obtain ⟨la, lc, rfl⟩ := own_slice HD.out.2.1
        clear hRq hp hq
        go_wp2_with fail
        refine UA.out.mono ?_; rintro e w5 ⟨c5, u5, rfl, k5, r5, e5⟩
        obtain ⟨ea, en, ek, rfl⟩ := rerr_form15 e5
        have A6 := (Ext.refl w5).alloc (.cells #[.int .i64 c5, .slice ea en ek] 34)
        have HD5 := Lib.hid (HD.out.kp k5 r5 HQL.out hwb hbB)
        have HD6 := Lib.hid (HD5.out.ext A6 hwb hbB)
        have HE6 := Lib.hid (e5.ext A6)
        have HV6 := Lib.hid (BoxIs.new w5 #[.int .i64 c5, .slice ea en ek] 34)
        have hB5 : B ≤ w5.heap.size := HD5.out.2.2.2.2.2.1
        clear k5 r5 e5 A6 UA HD HD5
        go_wp2_with fail
        revert HD6 HE6 HV6
        generalize w5.alloc _ = w6
        generalize w5.heap.size = G at *
        intro HD6 HE6 HV6
        have v0 : w6.cell? ⟨G, 0, none⟩ = some (.int .i64 c5) := HV6.out.cell (i := 0) rfl
        have v1 : w6.cell? ⟨G, 1, none⟩ = some (.slice ea en ek) := HV6.out.cell (i := 1) rfl
        cases hf : alF (bs.drop 5) p (alD p) with
        | some fc =>
          rw [hf] at HE6 HEF HCDA
          have HRY : Hid (dcR bs = (some ((sourceS, (k : Int)) :: fc.1, fc.2), [])) := by
            show _ = _
            rw [HRZ.out]
            unfold dcE
            rw [if_pos rfl, if_neg (by rw [HEF.out]; simp), HEF.out]
            rfl
          obtain ⟨hcd, hcl⟩ := HCDA.out fc.1 fc.2 rfl
          have HRE := HRY
          obtain ⟨pp, cc⟩ := fc
          have hcc : c5 = cc := HE6.out.1
          have hc0 : cc ≠ 0 := HE6.out.2.1
          subst hcc
          have hcz : (c5 == 0) = false := by simpa using hc0
          have HC0 := Lib.hid hc0
          have hpl : pp.length ≤ 1000000 := by have : pp.length ≤ 1 := hcl; omega
          clear hf hcd hcl HV6
          refine (ok_any c5 _ _).mono ?_; rintro e w7 ⟨rfl, x7⟩
          rw [hcz]
          have HD7 := Lib.hid (HD6.out.ext x7 hwb hbB)
          have HE7 := Lib.hid (HE6.out.ext x7)
          have v0' := x7.cell v0
          have v1' := x7.cell v1
          clear x7 v0 v1 HD6 HE6
          go_wp2_with fail
          refine (ok_any c5 _ _).mono ?_; rintro e w8 ⟨rfl, x8⟩
          rw [hcz]
          have HD6 := Lib.hid (HD7.out.ext x8 hwb hbB)
          have HE6 := Lib.hid (HE7.out.ext x8)
          have v0 := x8.cell v0'
          have v1 := x8.cell v1'
          clear x8 v0' v1' HD7 HE7
          have UI : Hid (∀ W', RErrIs W' (some (pp, c5)) c5 (.slice ea en ek) → Calls Tryz.prog 40 #[.string sourceS, .int .i64 (k : Int), .agg #[.int .i64 c5, .slice ea en ek]] W' fun e w' => ∃ u, e = .returned (.agg #[.int .i64 c5, u]) ∧ w'.ownsRow W'.heap.size 71 2 u (pp.length + 1) (stepCells ((sourceS, (k : Int)) :: pp)) ∧ Ext W' w') := fun W' hh => refIn_err sourceS (k : Int) c5 _ pp W' hh.2.2 HC0.out hpl
          go_wp2_with fail
          refine (UI.out _ HE6.out).mono ?_; rintro e w7 ⟨u7, rfl, o7, x7⟩
          obtain ⟨ua, un, uc, rfl⟩ := own_slc15 o7
          -- o7 (the path's row at W's size), x7 : Ext wA w7, HD6 : RdAtQ .. wA ..; HRE; stores into the result
          have HD7 := Lib.hid (HD6.out.ext x7 hwb hbB)
          have HBZ := Lib.hid HD7.out.2.2.2.2.2.2
          have HXZ := Lib.hid ((HD7.out.2.2.2.2.1.setCell (p := ⟨w.heap.size, 0, none⟩) (Nat.le_refl _) (.int .i64 c5)).setCell (p := ⟨w.heap.size, 1, none⟩) (Nat.le_refl _) (.slice ua un uc))
          have HRW := Lib.hid (Row.of_owns (ownsRow_setCell_below (ownsRow_setCell_below o7 (a := ⟨w.heap.size, 0, none⟩) HD6.out.2.2.2.2.2.2.lt (.int .i64 c5)) (a := ⟨w.heap.size, 1, none⟩) HD6.out.2.2.2.2.2.2.lt (.slice ua un uc)))
          obtain ⟨g0, g1, g2, g3⟩ := HBZ.out.res
          clear o7 x7
          go_wp2
          obtain ⟨y0, y1⟩ := res_cells g0 g1 (c := c5) (.slice ua un uc)
          exact bodyPost_ret (v := .tuple #[.slice none 0 0, .agg #[.int .i64 c5, .slice ua un uc]]) (by simp [results, Tryz.results15, go_sem, y0, y1]) rfl ⟨_, _, _, rfl, HXZ.out, by rw [HRE.out]; exact ⟨rfl, HC0.out, HRW.out⟩, by rw [HRE.out]; exact Fms.nil _⟩
        | none =>
          rw [hf] at HE6 HEF
          obtain ⟨hc5, hu5⟩ := HE6.out
          simp only [Value.slice.injEq] at hu5
          obtain ⟨rfl, rfl, rfl⟩ := hu5
          subst hc5
          rw [if_pos rfl] at HEF
          obtain ⟨DD, hDD⟩ : ∃ DD, 8 * (bs.drop 5).length - (p + alD p) = DD := ⟨_, rfl⟩
          have HDD := Lib.hid hDD
          have UL := Lib.hid (fun (W' : World) (r : RqAt W' b (bs.drop 5) (p + alD p) w.heap.size) => rqleft_any b (p + alD p) w.heap.size (bs.drop 5) W' r HQL.out)
          rw [hDD] at UL
          clear hf hDD HE6
          refine (ok_any 0 _ _).mono ?_; rintro e w7 ⟨rfl, x7⟩
          rw [show ((0 : Int) == 0) = true from rfl]
          have HD7 := Lib.hid (HD6.out.ext x7 hwb hbB)
          have HV7 := Lib.hid (HV6.out.ext x7)
          clear x7 v0 v1 HD6 HV6
          go_wp2_with fail
          refine (UL.out _ HD7.out.1.1).mono ?_; rintro e w8 ⟨rfl, x8⟩
          have HD8 := Lib.hid (HD7.out.ext x8 hwb hbB)
          have HV8 := Lib.hid (HV7.out.ext x8)
          clear x8 HD7 HV7
          by_cases h0 : 0 < DD
          · have t2 : (0 : Int) < (DD : Int) := by omega
            have HRE : Hid (dcR bs = (some ((sourceS, (k : Int)) :: [], 5), [])) := by
              show _ = _
              have hE : endF (bs.drop 5) p = some ([], 5) := by rw [HEF.out, if_pos (by have := HDD.out; omega)]
              rw [HRZ.out]
              unfold dcE
              rw [if_pos rfl, hE, if_neg (by simp)]
              rfl
            clear h0
            go_wp2_with fail
            refine (fail_any 5 _).mono ?_; rintro e w9 ⟨rfl, x9⟩
            have HD9 := Lib.hid (HD8.out.ext x9 hwb hbB)
            have HV9 := HV8.out.ext x9
            have v0 : w9.cell? ⟨G, 0, none⟩ = some (.int .i64 0) := HV9.cell (i := 0) rfl
            have v1 : w9.cell? ⟨G, 1, none⟩ = some (.slice none 0 0) := HV9.cell (i := 1) rfl
            have vf0 := HV9.free (i := 0)
            have vf1 := HV9.free (i := 1)
            have HDa := Lib.hid (HD9.out.fresh2 (R := G) hB5 (.int .i64 5) (.slice none 0 0) hbB (by omega) (by unfold BoxIs at HV9; exact HV9))
            have HVa := Lib.hid ((HV9.set (i := 0) (.int .i64 5)).set (i := 1) (.slice none 0 0))
            clear x9 HV9
            go_wp2_with fail
            revert HDa HVa
            generalize (w9.setCell ⟨G, 0, none⟩ (.int .i64 5)).setCell ⟨G, 1, none⟩ (.slice none 0 0) = wa
            intro HDa HVa
            have a0 : wa.cell? ⟨G, 0, none⟩ = some (.int .i64 5) := HVa.out.cell (i := 0) rfl
            have a1 : wa.cell? ⟨G, 1, none⟩ = some (.slice none 0 0) := HVa.out.cell (i := 1) rfl
            refine (ok_any 5 _ _).mono ?_; rintro e wb ⟨rfl, xb⟩
            rw [show ((5 : Int) == 0) = false from rfl]
            have HD6 := Lib.hid (HDa.out.ext xb hwb hbB)
            have a0' := xb.cell a0
            have a1' := xb.cell a1
            clear xb a0 a1 HDa HVa
            have UI : Hid (∀ W', Calls Tryz.prog 40 #[.string sourceS, .int .i64 (k : Int), .agg #[.int .i64 5, .slice none 0 0]] W' fun e w' => ∃ u, e = .returned (.agg #[.int .i64 5, u]) ∧ w'.ownsRow W'.heap.size 71 2 u (([] : List (ByteArray × Int)).length + 1) (stepCells ((sourceS, (k : Int)) :: [])) ∧ Ext W' w') := fun W' => refIn_err sourceS (k : Int) 5 _ [] W' (Row.nil W') (by decide) (by simp)
            obtain ⟨c5, hc5⟩ : ∃ c5 : Int, (5 : Int) = c5 := ⟨_, rfl⟩
            have HC0 : Hid (c5 ≠ 0) := by show c5 ≠ 0; rw [← hc5]; decide
            obtain ⟨pp, hpp⟩ : ∃ pp : List (ByteArray × Int), [] = pp := ⟨_, rfl⟩
            rw [hpp, hc5] at UI
            rw [hpp, hc5] at HRE
            rw [hc5] at a0' ⊢
            clear hc5 hpp
            go_wp2_with fail
            refine (UI.out _).mono ?_; rintro e w7 ⟨u7, rfl, o7, x7⟩
            obtain ⟨ua, un, uc, rfl⟩ := own_slc15 o7
            -- o7 (the path's row at W's size), x7 : Ext wA w7, HD6 : RdAtQ .. wA ..; HRE; stores into the result
            have HD7 := Lib.hid (HD6.out.ext x7 hwb hbB)
            have HBZ := Lib.hid HD7.out.2.2.2.2.2.2
            have HXZ := Lib.hid ((HD7.out.2.2.2.2.1.setCell (p := ⟨w.heap.size, 0, none⟩) (Nat.le_refl _) (.int .i64 c5)).setCell (p := ⟨w.heap.size, 1, none⟩) (Nat.le_refl _) (.slice ua un uc))
            have HRW := Lib.hid (Row.of_owns (ownsRow_setCell_below (ownsRow_setCell_below o7 (a := ⟨w.heap.size, 0, none⟩) HD6.out.2.2.2.2.2.2.lt (.int .i64 c5)) (a := ⟨w.heap.size, 1, none⟩) HD6.out.2.2.2.2.2.2.lt (.slice ua un uc)))
            obtain ⟨g0, g1, g2, g3⟩ := HBZ.out.res
            clear o7 x7
            go_wp2
            obtain ⟨y0, y1⟩ := res_cells g0 g1 (c := c5) (.slice ua un uc)
            exact bodyPost_ret (v := .tuple #[.slice none 0 0, .agg #[.int .i64 c5, .slice ua un uc]]) (by simp [results, Tryz.results15, go_sem, y0, y1]) rfl ⟨_, _, _, rfl, HXZ.out, by rw [HRE.out]; exact ⟨rfl, HC0.out, HRW.out⟩, by rw [HRE.out]; exact Fms.nil _⟩
          · have t2 : ¬ (0 : Int) < (DD : Int) := by omega
            have HRY : Hid (dcR bs = (none, L)) := by
              show _ = _
              have hE : endF (bs.drop 5) p = none := by rw [HEF.out, if_neg (by have := HDD.out; omega)]
              rw [HRZ.out]
              unfold dcE
              rw [if_pos rfl, hE, if_pos rfl]
            have v0 : w8.cell? ⟨G, 0, none⟩ = some (.int .i64 0) := HV8.out.cell (i := 0) rfl
            have v1 : w8.cell? ⟨G, 1, none⟩ = some (.slice none 0 0) := HV8.out.cell (i := 1) rfl
            clear h0
            go_wp2_with fail
            refine (ok_any 0 _ _).mono ?_; rintro e w9 ⟨rfl, x9⟩
            rw [show ((0 : Int) == 0) = true from rfl]
            have HD9 := Lib.hid (HD8.out.ext x9 hwb hbB)
            have v0' := x9.cell v0
            have v1' := x9.cell v1
            have HBZ := Lib.hid HD9.out.2.2.2.2.2.2
            have HKR : Hid (Kp w.heap.size w9 ((w9.setCell ⟨w.heap.size, 0, none⟩ (.int .i64 0)).setCell ⟨w.heap.size, 1, none⟩ (.slice none 0 0))) := ((Kp.refl w.heap.size w9).set 0 _).set 1 _
            have HFM := Lib.hid (HD9.out.fms HKR.out (by omega))
            have HXZ := Lib.hid ((HD9.out.2.2.2.2.1.setCell (p := ⟨w.heap.size, 0, none⟩) (Nat.le_refl _) (.int .i64 0)).setCell (p := ⟨w.heap.size, 1, none⟩) (Nat.le_refl _) (.slice none 0 0))
            obtain ⟨g0, g1, g2, g3⟩ := HBZ.out.res
            have n1 : ¬ w.heap.size = G := by omega
            clear x9 v0 v1
            go_wp2
            go_region
            go_wp2
            obtain ⟨y0, y1⟩ := res_cells g0 g1 (c := 0) (.slice none 0 0)
            exact bodyPost_ret (v := .tuple #[.slice la k lc, .agg #[.int .i64 0, .slice none 0 0]]) (by simp [results, Tryz.results15, go_sem, y0, y1]) rfl ⟨_, _, _, rfl, HXZ.out.drew, by rw [HRY.out]; exact RErrIs.zero, by rw [HRY.out]; exact HFM.out.ext (Ext.refl _).drew⟩
  · have HR0 : Hid (dcR bs = (some ([(sourceS, -1)], hdC bs), [])) := by show _ = _; unfold dcR; rw [if_neg h0]
    have HCC := Lib.hid (hdC_code bs h0)
    by_cases h5 : n < 5
    · have HC : Hid (hdC bs = 1) := by show _ = _; unfold hdC; rw [HN.out, if_pos h5]
      have HRE : Hid (dcR bs = (some ([(sourceS, -1)], 1), [])) := by show _ = _; rw [HR0.out, HC.out]
      have l5 : (n : Int) < 5 := by omega
      clear h hn h0 h5
      go_enter Tryz.func15, Tryz.ntmps15
      have UW : Hid (∀ W', Calls Tryz.prog 38 #[.string sourceS, .int .i64 (-1), .int .i64 1] W' fun e w' => ∃ u, e = .returned (.agg #[.int .i64 1, u]) ∧ w'.ownsRow W'.heap.size 71 2 u 1 (stepCells [(sourceS, -1)]) ∧ Ext W' w') := fun W' => wrap_any sourceS (-1) 1 W' (by decide)
      go_wp2_with fail
      refine (UW.out _).mono ?_; rintro e w1 ⟨u1, rfl, o1, x1⟩
      obtain ⟨ua, un, uc, rfl⟩ := own_slc15 o1
      have HBZ := Lib.hid (HBX.out.ext x1)
      have HXZ := Lib.hid (((HE0.out.trans x1).setCell (p := ⟨w.heap.size, 0, none⟩) (Nat.le_refl _) (.int .i64 1)).setCell (p := ⟨w.heap.size, 1, none⟩) (Nat.le_refl _) (.slice ua un uc))
      have HRW := Lib.hid (Row.of_owns (ownsRow_setCell_below (ownsRow_setCell_below o1 (a := ⟨w.heap.size, 0, none⟩) HBX.out.lt (.int .i64 1)) (a := ⟨w.heap.size, 1, none⟩) HBX.out.lt (.slice ua un uc)))
      obtain ⟨g0, g1, g2, g3⟩ := HBZ.out.res
      clear o1 x1
      go_wp2
      obtain ⟨y0, y1⟩ := res_cells g0 g1 (c := 1) (.slice ua un uc)
      exact bodyPost_ret (v := .tuple #[.slice none 0 0, .agg #[.int .i64 1, .slice ua un uc]]) (by simp [results, Tryz.results15, go_sem, y0, y1]) rfl ⟨_, _, _, rfl, HXZ.out, by rw [HRE.out]; exact ⟨rfl, by decide, HRW.out⟩, by rw [HRE.out]; exact Fms.nil _⟩
    · obtain ⟨g, off, rfl⟩ := h.had (by omega)
      have c0 := HE0.out.cell (h.at (nget_of_lt (j := 0) (by omega)))
      have c1 := HE0.out.cell (h.at (nget_of_lt (j := 1) (by omega)))
      have c2 := HE0.out.cell (h.at (nget_of_lt (j := 2) (by omega)))
      have c3 := HE0.out.cell (h.at (nget_of_lt (j := 3) (by omega)))
      have c4 := HE0.out.cell (h.at (nget_of_lt (j := 4) (by omega)))
      rw [Nat.add_zero] at c0
      have HCD : Hid (hdC bs = if ¬ (bs.getD 0 0 = 75 ∧ bs.getD 1 0 = 83) then 2
        else if ¬ ((1 ≤ bs.getD 2 0 ∧ bs.getD 2 0 ≤ 4) ∧ (1 ≤ bs.getD 3 0 ∧ bs.getD 3 0 ≤ 4) ∧ (1 ≤ bs.getD 4 0 ∧ bs.getD 4 0 ≤ 16)) then 3 else 0) := by show _ = _; unfold hdC; rw [HN.out, if_neg h5]
      have H0 := Lib.hid h0
      generalize bs.getD 0 0 = z0 at *
      generalize bs.getD 1 0 = z1 at *
      generalize bs.getD 2 0 = z2 at *
      generalize bs.getD 3 0 = z3 at *
      generalize bs.getD 4 0 = z4 at *
      have l5 : ¬ (n : Int) < 5 := by omega
      have s0 : (0 : Int) < (n : Int) := by omega
      have s1 : (1 : Int) < (n : Int) := by omega
      have s2 : (2 : Int) < (n : Int) := by omega
      have s3 : (3 : Int) < (n : Int) := by omega
      have s4 : (4 : Int) < (n : Int) := by omega
      by_cases hKS : z0 = 75 ∧ z1 = 83
      · obtain ⟨rfl, rfl⟩ := hKS
        have hbad : ¬ ((1 ≤ z2 ∧ z2 ≤ 4) ∧ (1 ≤ z3 ∧ z3 ≤ 4) ∧ (1 ≤ z4 ∧ z4 ≤ 16)) := fun hb => H0.out (by rw [HCD.out, if_neg (fun hh => hh ⟨rfl, rfl⟩), if_neg (fun hh => hh hb)])
        have HRE : Hid (dcR bs = (some ([(sourceS, -1)], 3), [])) := by
          show _ = _
          rw [HR0.out, HCD.out, if_neg (fun hh => hh ⟨rfl, rfl⟩), if_pos hbad]
        have HBAD : Hid ((z2 : Int) < 1 ∨ (4 : Int) < (z2 : Int) ∨ (z3 : Int) < 1 ∨ (4 : Int) < (z3 : Int) ∨ (z4 : Int) < 1 ∨ (16 : Int) < (z4 : Int)) := by show _ ∨ _; omega
        clear h hn h0 h5 hbad
        go_enter Tryz.func15, Tryz.ntmps15
        go_upto_region 5 with fail
        go_cut [28] from 29 to 62 (fun sv wx => sv = .bool true ∧ w.alloc (.cells #[.int .i64 0, .slice none 0 0] 34) = wx)
        case first =>
          by_cases d1 : (z2 : Int) < 1
          · have d1 : decide ((z2 : Int) < 1) = true := decide_eq_true d1
            go_wp2_with fail
            go_meet
            exact ⟨rfl, rfl⟩
          have d1 : decide ((z2 : Int) < 1) = false := decide_eq_false d1
          by_cases d2 : (4 : Int) < (z2 : Int)
          · have d2 : decide ((4 : Int) < (z2 : Int)) = true := decide_eq_true d2
            go_wp2_with fail
            go_meet
            exact ⟨rfl, rfl⟩
          have d2 : decide ((4 : Int) < (z2 : Int)) = false := decide_eq_false d2
          by_cases d3 : (z3 : Int) < 1
          · have d3 : decide ((z3 : Int) < 1) = true := decide_eq_true d3
            go_wp2_with fail
            go_meet
            exact ⟨rfl, rfl⟩
          have d3 : decide ((z3 : Int) < 1) = false := decide_eq_false d3
          by_cases d4 : (4 : Int) < (z3 : Int)
          · have d4 : decide ((4 : Int) < (z3 : Int)) = true := decide_eq_true d4
            go_wp2_with fail
            go_meet
            exact ⟨rfl, rfl⟩
          have d4 : decide ((4 : Int) < (z3 : Int)) = false := decide_eq_false d4
          by_cases d5 : (z4 : Int) < 1
          · have d5 : decide ((z4 : Int) < 1) = true := decide_eq_true d5
            go_wp2_with fail
            go_meet
            exact ⟨rfl, rfl⟩
          have d5 : decide ((z4 : Int) < 1) = false := decide_eq_false d5
          have d6 : decide ((16 : Int) < (z4 : Int)) = true := decide_eq_true (by
            have e1 := of_decide_eq_false d1
            have e2 := of_decide_eq_false d2
            have e3 := of_decide_eq_false d3
            have e4 := of_decide_eq_false d4
            have e5 := of_decide_eq_false d5
            have := HBAD.out
            omega)
          go_wp2_with fail
          go_meet
          exact ⟨rfl, rfl⟩
        obtain ⟨rfl, rfl⟩ := hcut
        have UW : Hid (∀ W', Calls Tryz.prog 38 #[.string sourceS, .int .i64 (-1), .int .i64 3] W' fun e w' => ∃ u, e = .returned (.agg #[.int .i64 3, u]) ∧ w'.ownsRow W'.heap.size 71 2 u 1 (stepCells [(sourceS, -1)]) ∧ Ext W' w') := fun W' => wrap_any sourceS (-1) 3 W' (by decide)
        go_wp2_with fail
        refine (UW.out _).mono ?_; rintro e w1 ⟨u1, rfl, o1, x1⟩
        obtain ⟨ua, un, uc, rfl⟩ := own_slc15 o1
        have HBZ := Lib.hid (HBX.out.ext x1)
        have HXZ := Lib.hid (((HE0.out.trans x1).setCell (p := ⟨w.heap.size, 0, none⟩) (Nat.le_refl _) (.int .i64 3)).setCell (p := ⟨w.heap.size, 1, none⟩) (Nat.le_refl _) (.slice ua un uc))
        have HRW := Lib.hid (Row.of_owns (ownsRow_setCell_below (ownsRow_setCell_below o1 (a := ⟨w.heap.size, 0, none⟩) HBX.out.lt (.int .i64 3)) (a := ⟨w.heap.size, 1, none⟩) HBX.out.lt (.slice ua un uc)))
        obtain ⟨g0, g1, g2, g3⟩ := HBZ.out.res
        clear o1 x1
        go_wp2
        obtain ⟨y0, y1⟩ := res_cells g0 g1 (c := 3) (.slice ua un uc)
        exact bodyPost_ret (v := .tuple #[.slice none 0 0, .agg #[.int .i64 3, .slice ua un uc]]) (by simp [results, Tryz.results15, go_sem, y0, y1]) rfl ⟨_, _, _, rfl, HXZ.out, by rw [HRE.out]; exact ⟨rfl, by decide, HRW.out⟩, by rw [HRE.out]; exact Fms.nil _⟩
      · have HRE : Hid (dcR bs = (some ([(sourceS, -1)], 2), [])) := by
          show _ = _
          rw [HR0.out, HCD.out, if_pos hKS]
        by_cases h75 : z0 = 75
        · subst h75
          have hz1 : z1 ≠ 83 := fun e => hKS ⟨rfl, e⟩
          have e1 : ((z1 : Int) != 83) = true := by rw [bne_iff_ne]; omega
          clear h hn h0 h5 hKS hz1
          go_enter Tryz.func15, Tryz.ntmps15
          have UW : Hid (∀ W', Calls Tryz.prog 38 #[.string sourceS, .int .i64 (-1), .int .i64 2] W' fun e w' => ∃ u, e = .returned (.agg #[.int .i64 2, u]) ∧ w'.ownsRow W'.heap.size 71 2 u 1 (stepCells [(sourceS, -1)]) ∧ Ext W' w') := fun W' => wrap_any sourceS (-1) 2 W' (by decide)
          go_wp2_with fail
          refine (UW.out _).mono ?_; rintro e w1 ⟨u1, rfl, o1, x1⟩
          obtain ⟨ua, un, uc, rfl⟩ := own_slc15 o1
          have HBZ := Lib.hid (HBX.out.ext x1)
          have HXZ := Lib.hid (((HE0.out.trans x1).setCell (p := ⟨w.heap.size, 0, none⟩) (Nat.le_refl _) (.int .i64 2)).setCell (p := ⟨w.heap.size, 1, none⟩) (Nat.le_refl _) (.slice ua un uc))
          have HRW := Lib.hid (Row.of_owns (ownsRow_setCell_below (ownsRow_setCell_below o1 (a := ⟨w.heap.size, 0, none⟩) HBX.out.lt (.int .i64 2)) (a := ⟨w.heap.size, 1, none⟩) HBX.out.lt (.slice ua un uc)))
          obtain ⟨g0, g1, g2, g3⟩ := HBZ.out.res
          clear o1 x1
          go_wp2
          obtain ⟨y0, y1⟩ := res_cells g0 g1 (c := 2) (.slice ua un uc)
          exact bodyPost_ret (v := .tuple #[.slice none 0 0, .agg #[.int .i64 2, .slice ua un uc]]) (by simp [results, Tryz.results15, go_sem, y0, y1]) rfl ⟨_, _, _, rfl, HXZ.out, by rw [HRE.out]; exact ⟨rfl, by decide, HRW.out⟩, by rw [HRE.out]; exact Fms.nil _⟩
        · have e0 : ((z0 : Int) != 75) = true := by rw [bne_iff_ne]; omega
          clear h hn h0 h5 hKS h75
          go_enter Tryz.func15, Tryz.ntmps15
          have UW : Hid (∀ W', Calls Tryz.prog 38 #[.string sourceS, .int .i64 (-1), .int .i64 2] W' fun e w' => ∃ u, e = .returned (.agg #[.int .i64 2, u]) ∧ w'.ownsRow W'.heap.size 71 2 u 1 (stepCells [(sourceS, -1)]) ∧ Ext W' w') := fun W' => wrap_any sourceS (-1) 2 W' (by decide)
          go_wp2_with fail
          refine (UW.out _).mono ?_; rintro e w1 ⟨u1, rfl, o1, x1⟩
          obtain ⟨ua, un, uc, rfl⟩ := own_slc15 o1
          have HBZ := Lib.hid (HBX.out.ext x1)
          have HXZ := Lib.hid (((HE0.out.trans x1).setCell (p := ⟨w.heap.size, 0, none⟩) (Nat.le_refl _) (.int .i64 2)).setCell (p := ⟨w.heap.size, 1, none⟩) (Nat.le_refl _) (.slice ua un uc))
          have HRW := Lib.hid (Row.of_owns (ownsRow_setCell_below (ownsRow_setCell_below o1 (a := ⟨w.heap.size, 0, none⟩) HBX.out.lt (.int .i64 2)) (a := ⟨w.heap.size, 1, none⟩) HBX.out.lt (.slice ua un uc)))
          obtain ⟨g0, g1, g2, g3⟩ := HBZ.out.res
          clear o1 x1
          go_wp2
          obtain ⟨y0, y1⟩ := res_cells g0 g1 (c := 2) (.slice ua un uc)
          exact bodyPost_ret (v := .tuple #[.slice none 0 0, .agg #[.int .i64 2, .slice ua un uc]]) (by simp [results, Tryz.results15, go_sem, y0, y1]) rfl ⟨_, _, _, rfl, HXZ.out, by rw [HRE.out]; exact ⟨rfl, by decide, HRW.out⟩, by rw [HRE.out]; exact Fms.nil _⟩
end Go.Proofs.YtgohlhgapboijaaGreatDoor
