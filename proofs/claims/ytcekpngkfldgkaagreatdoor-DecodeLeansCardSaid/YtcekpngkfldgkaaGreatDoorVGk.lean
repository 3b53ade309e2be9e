/- Contracts of this seat: Grp, Grp2, Of, Sc1, ScG, CpFs, OpSq, OpF, OpHd, Sk1. -/
import Derived.Test.YtcekpngkfldgkaaGreatDoorVGj
import Derived.Test.YtcekpngkfldgkaaGreatDoorVGb
import Derived.Test.YtcekpngkfldgkaaGreatDoorVZk
import Derived.Deep.RegionHeld3
import Derived.Laws.Rows
import Derived.BigQuiet
import Derived.Deep.QuietTactic
import Derived.Test.YtcekpngkfldgkaaGreatDoorVZb
import Derived.Test.YtcekpngkfldgkaaGreatDoorVZs
import Derived.Deep.Slices
import Derived.Lib.SmallJoins
import Derived.Test.YtcekpngkfldgkaaGreatDoorVZv
/- kinlaw16.plain; lists of groups; scene.Groups: contracts over this seat's translation. -/
namespace Go.Proofs.YtcekpngkfldgkaaGreatDoor
set_option linter.unusedVariables false
set_option linter.unusedSimpArgs false
open Go.RowKit Go.Extern.Stop Go.Stop Go.Extern

end Go.Proofs.YtcekpngkfldgkaaGreatDoor

/- scene.Groups: its contract over this seat's translation. -/
namespace Go.Proofs.YtcekpngkfldgkaaGreatDoor
set_option linter.unusedVariables false
set_option linter.unusedSimpArgs false
open Go.RowKit Go.Extern.Stop Go.Stop Go.Extern

end Go.Proofs.YtcekpngkfldgkaaGreatDoor

/- scene.Of: its contract over this seat's translation. -/
namespace Go.Proofs.YtcekpngkfldgkaaGreatDoor
set_option linter.unusedVariables false
set_option linter.unusedSimpArgs false
open Go.RowKit Go.Extern.Stop Go.Stop Go.Extern

end Go.Proofs.YtcekpngkfldgkaaGreatDoor

/- kinlaw16.first; kinlaw16.SceneUnlikes: the walks. -/
namespace Go.Proofs.YtcekpngkfldgkaaGreatDoor
set_option linter.unusedVariables false
set_option linter.unusedSimpArgs false
open Go.RowKit Go.Extern.Stop Go.Stop Go.Extern

theorem FrIn.mk {w : World} {g i : Nat} {W H : Int} {a : Option Addr} {n cap : Nat} {zs : List Int} (h0 : w.cell? ⟨g, i, none⟩ = some (.int .i64 W)) (h1 : w.cell? ⟨g, i + 1, none⟩ = some (.int .i64 H)) (h2 : w.cell? ⟨g, i + 2, none⟩ = some (.slice a n cap)) (h3 : Row w (.slice a n cap) zs.length (zs.map (Value.int .i64))) : FrIn w g i (W, H, zs) := ⟨a, n, cap, h0, h1, h2, h3⟩
def P3 : List Int := rowL 64 fun _ => 3
def P0 : List Int := rowL 64 fun _ => 0
def P1 : List Int := rowL 64 fun _ => 1
end Go.Proofs.YtcekpngkfldgkaaGreatDoor

/- kinref.Groups, kinref.Frames of two that are the same: contracts over this seat's translation. -/
namespace Go.Proofs.YtcekpngkfldgkaaGreatDoor
set_option linter.unusedVariables false
set_option linter.unusedSimpArgs false
open Go.RowKit Go.Extern.Stop Go.Stop Go.Extern

set_option maxRecDepth 20000 in
set_option maxHeartbeats 4000000 in
theorem frames_same (L : List Fr) (u v : Value) (w : World) (hu : Fms w u L) (hv : Fms w v L) (hl : L.length ≤ 1000000) (hsm : Hid (∀ (q : Nat) (f : Fr), L[q]? = some f → f.2.2.length ≤ 1000000)) :
    Calls Tryz.prog 22 #[u, v] w fun e w' => e = .returned (.bool true) ∧ Ext w w' := by
  obtain ⟨a, ca, rfl⟩ := hu.form
  obtain ⟨b, cb, rfl⟩ := hv.form
  obtain ⟨n, hn⟩ : ∃ n, n = L.length := ⟨_, rfl⟩
  have HN := Lib.hid hn
  rw [← hn] at hu hv hl ⊢
  have AG := Lib.hid hu.had
  have BG := Lib.hid hv.had
  clear hn
  go_enter Tryz.func22, Tryz.ntmps22
  go_wp2
  go_loopw [5] (fun iv wr => ∃ k : Nat, k ≤ n ∧ iv = .int .i64 k ∧ Ext w wr) (fun iv _ => n - (intOf iv).toNat)
  case atStart => exact ⟨0, Nat.zero_le _, rfl, Ext.refl w⟩
  case round =>
    obtain ⟨k, hk, rfl, hE⟩ := hrel
    by_cases hlt : k < n
    · obtain ⟨f, hf⟩ : ∃ f, L[k]? = some f := ⟨_, List.getElem?_eq_getElem (by rw [← HN.out]; exact hlt)⟩
      obtain ⟨g, o, rfl⟩ := AG.out (by omega)
      obtain ⟨g', o', rfl⟩ := BG.out (by omega)
      obtain ⟨fa, fn, fc, p0, p1, p2, p3⟩ := (hu.at hf).ext hE
      obtain ⟨pa, pn, pc, q0, q1, q2, q3⟩ := (hv.at hf).ext hE
      have H1 : Hid (Ints wr (.slice fa fn fc) f.2.2) := ⟨p3, Nat.le_trans (hsm.out _ _ hf) (by decide)⟩
      have H2 : Hid (Ints wr (.slice pa pn pc) f.2.2) := ⟨q3, Nat.le_trans (hsm.out _ _ hf) (by decide)⟩
      clear p3 q3 hf
      go_wp2_with fail
      go_region_held3 (fun w' => w'.cell? ⟨g, o + k * 3, none⟩ = some (.int .i64 f.1) ∧ w'.cell? ⟨g, o + k * 3 + 1, none⟩ = some (.int .i64 f.2.1) ∧ w'.cell? ⟨g, o + k * 3 + 2, none⟩ = some (.slice fa fn fc) ∧ w'.cell? ⟨g', o' + k * 3, none⟩ = some (.int .i64 f.1) ∧ w'.cell? ⟨g', o' + k * 3 + 1, none⟩ = some (.int .i64 f.2.1) ∧ w'.cell? ⟨g', o' + k * 3 + 2, none⟩ = some (.slice pa pn pc) ∧ Ext wr w')
        (first | assumption | (exact ⟨p0, p1, p2, q0, q1, q2, Ext.refl _⟩) | (exact ⟨p0, p1, p2, q0, q1, q2, (Ext.refl _).drew⟩) | (go_split_ands; exact ⟨hx.cell (by assumption), hx.cell (by assumption), hx.cell (by assumption), hx.cell (by assumption), hx.cell (by assumption), hx.cell (by assumption), Ext.trans (by assumption) hx⟩))
        ((go_at_call 16; obtain ⟨_, _, _, _, _, _, hE1⟩ : _ ∧ _ ∧ _ ∧ _ ∧ _ ∧ _ ∧ Ext wr _ := (by assumption); refine (frame_same f.1 f.2.1 f.2.2 _ _ _ _ _ _ _ (H1.out.ext hE1) (H2.out.ext hE1)).mono ?_; rintro e w' ⟨rfl, hx⟩))
      obtain ⟨_, _, _, _, _, _, hE1⟩ : _ ∧ _ ∧ _ ∧ _ ∧ _ ∧ _ ∧ Ext wr _ := by assumption
      have hE9 := hE.trans hE1
      clear p0 p1 p2 q0 q1 q2 H1 H2 hE hE1
      go_wp2
      go_roundw
      case rel => exact ⟨k + 1, by omega, by go_num, hE9⟩
      case measure => simp [intOf]; omega
    · have hkn : ¬ (k : Int) < (n : Int) := by omega
      clear hlt
      go_wp2
      go_ret
      exact ⟨rfl, hE⟩
end Go.Proofs.YtcekpngkfldgkaaGreatDoor

/- kinref.CopyFrames: its contract over this seat's translation. -/
namespace Go.Proofs.YtcekpngkfldgkaaGreatDoor
set_option linter.unusedVariables false
set_option linter.unusedSimpArgs false
open Go.RowKit Go.Extern.Stop Go.Stop Go.Extern

theorem infoFr : (Tryz.prog.info? 24).map (fun i => (i.zero, i.size, i.bytes)) = some (some (.agg #[.int .i64 0, .int .i64 0, .slice none 0 0]), 3, 40) := by kernel_rfl
theorem push_fr {ops : Array Oper} {rest : List Oper} {o : Oper} {a : Act} {Q : Exit → Act → World → Prop} {Wd : World} {base : Nat} (hgd : o.guard = none) (s y : Operand) (t : TypeId)
    (ho : o.op = .call { callee := .builtin .append, args := #[s, y], argTypes := #[t, t] }) (ht : Tryz.prog.underlying t = some (.slice 24))
    (v : Value) (n : Nat) (xs : List Value) (W H : Int) (su : Value) (hsu : su.oneCell' = true) (hs : a.eval s = v) (hown : Wd.ownsRow base 24 3 v n xs) (hx : a.eval y = .slice (some ⟨Wd.heap.size, 0, none⟩) 1 1) (hb : base ≤ Wd.heap.size) (hn : n ≤ 1000000)
    (h : ∀ v' w', w'.ownsRow base 24 3 v' (n + 1) (xs ++ [.int .i64 W, .int .i64 H, su]) → Wd.grownBy w' v.ownBlock → (v'.ownBlock = v.ownBlock ∨ v'.ownBlock = some (Wd.heap.size + 1)) → wpList Tryz.prog ops Q rest (a.put o.dst v') w') :
    wpList Tryz.prog ops Q (o :: rest) a (Wd.alloc (.cells #[.int .i64 W, .int .i64 H, su] 24)) := by
  obtain ⟨i0, hi, hz0, hz1, hz2⟩ := info_parts infoFr
  refine wpList_append_own_at _ hgd s y t ho base 24 i0 _ 3 40 ht hi hz0 hz1 hz2 rfl (by decide) v n xs hs (hown.alloc _) ⟨Wd.heap.size, 0, none⟩ 1 1 [.int .i64 W, .int .i64 H, su] hx rfl (World.news_of_block (cs := #[.int .i64 W, .int .i64 H, su]) (t := 24) (fr := (0, 0)) (heap_alloc_new Wd _)) ?_ (by unfold maxLen; omega) (by omega) (by simp; omega) ?_
  · intro x hx
    simp only [List.mem_cons, List.not_mem_nil, or_false] at hx
    rcases hx with rfl | rfl | rfl
    · rfl
    · rfl
    · exact hsu
  intro v' w' h1 h2 h3 h4
  refine h v' w' h1 ⟨h2.os, h2.tape, h2.output, Nat.le_trans (by simp) h2.size, fun k hk hne => ?_⟩ (by simpa using h4)
  exact (h2.block k (by simp; omega) hne).trans (Below.heap_alloc Wd _ k hk)
end Go.Proofs.YtcekpngkfldgkaaGreatDoor

/- Arguments opened: a square, a list of squares. -/
namespace Go.Proofs.YtcekpngkfldgkaaGreatDoor
set_option linter.unusedVariables false
set_option linter.unusedSimpArgs false
open Go.ChangeShapes Go.WideShapes Go.ChangeAt Go.RowKit Go.Joins Go.Deep

instance : Inhabited Sq := ⟨sq0⟩
section
variable {H : Type} {enc : TypeId × Value → H} {w : World}
end
end Go.Proofs.YtcekpngkfldgkaaGreatDoor

/- Arguments opened: a list of frames. -/
namespace Go.Proofs.YtcekpngkfldgkaaGreatDoor
set_option linter.unusedVariables false
set_option linter.unusedSimpArgs false
open Go.ChangeShapes Go.WideShapes Go.ChangeAt Go.RowKit Go.Joins Go.Deep
section
variable {H : Type} {enc : TypeId × Value → H} {w : World}

end
end Go.Proofs.YtcekpngkfldgkaaGreatDoor

/- Arguments opened: a head of a frame, a coded frame. -/
namespace Go.Proofs.YtcekpngkfldgkaaGreatDoor
set_option linter.unusedVariables false
set_option linter.unusedSimpArgs false
open Go.ChangeShapes Go.WideShapes Go.ChangeAt Go.RowKit Go.Joins Go.Deep

section
variable {H : Type} {enc : TypeId × Value → H} {w : World}
set_option maxRecDepth 100000 in
theorem bys_of_trod {fuel : Nat} {v : Value} {y : DataW H × List MemPlace} (hf : DataW.trod enc Tryz.prog w 0 (fun _ => true) true fuel 61 [v] = some y) :
    ∃ bs : List Nat, Row w v bs.length (bs.map fun x : Nat => Value.int .u8 (x : Int)) ∧ ∀ x ∈ bs, x < 256 := by
  rcases open_ints Tryz.underlying61 (k := .u8) Tryz.underlying5 (by kernel_rfl) hf with ⟨hc, _⟩ | ⟨a, len, cap, zs, hc, _, hl, hm, hlen, _, hcell, hw⟩
  · have hv : v = .slice none 0 0 := (List.cons.inj hc).1
    rw [hv]
    exact ⟨[], Row.nil w, by simp⟩
  · have hv : v = .slice (some a) len cap := (List.cons.inj hc).1
    rw [hv]
    simp only [if_true] at hlen
    have hB : ∀ x ∈ zs, 0 ≤ x ∧ x < 256 := fun x hx => by
      have h := hw x hx
      simp [Lit.wf, IntKind.min, IntKind.max, IntKind.signed, IntKind.bits] at h
      omega
    have hl' : ((zs.take len).map Int.toNat).length = len := by simp; omega
    have hcv : ((zs.take len).map Int.toNat).map (fun x : Nat => Value.int .u8 (x : Int)) = (zs.take len).map (Value.int .u8) := by
      rw [List.map_map]
      apply List.map_congr_left
      intro x hx
      have := hB x (List.mem_of_mem_take hx)
      show Value.int .u8 ((x.toNat : Nat) : Int) = _
      rw [Int.toNat_of_nonneg this.1]
    refine ⟨(zs.take len).map Int.toNat, ?_, fun x hx => ?_⟩
    · rw [hcv]
      refine ⟨some a, cap, by rw [hl'], by rw [hl']; exact hl, hm, fun h0 => ?_, fun g off ha j u hu => ?_⟩
      · have hp : 0 < zs.length := by rw [hl'] at h0; omega
        obtain ⟨b, off, rfl, _⟩ := ints_at hcell hp
        exact ⟨b, off, rfl⟩
      · obtain ⟨hj, rfl⟩ := lits_cells hu
        have := hcell j hj
        obtain rfl := Option.some.inj ha
        rwa [Go.WideShapes.add_plain] at this
    · obtain ⟨z, hz, rfl⟩ := List.mem_map.1 hx
      have := hB z (List.mem_of_mem_take hz)
      omega
set_option maxRecDepth 100000 in
theorem open_coded {r : Reach} {b0 : Nat} {v : Value} {d : DataW H} {p : List MemPlace} (hv : Value.okWide Tryz.prog w r b0 63 v) (h : DataW.Trod enc Tryz.prog w 0 (fun _ => true) true 63 v d p) :
    ∃ (K : Int) (u : Value) (bs : List Nat), v = .agg #[.int .i64 K, u] ∧ Row w u bs.length (bs.map fun x : Nat => Value.int .u8 (x : Int)) ∧ ∀ x ∈ bs, x < 256 := by
  obtain ⟨v0, v1, y0, y1, n, rfl, -, -, h0, h1⟩ := open_agg2 Tryz.underlying63 (by kernel_rfl) (by kernel_rfl) hv h
  obtain ⟨m0, e0, -, w0⟩ := DataW.trod_int Tryz.underlying3 h0
  obtain rfl := (List.cons.inj e0).1
  obtain ⟨bs, hr, hb⟩ := bys_of_trod h1
  exact ⟨m0, v1, bs, rfl, hr, hb⟩
end
end Go.Proofs.YtcekpngkfldgkaaGreatDoor

/- kinlaw20.Weighs, few, copied. -/
namespace Go.Proofs.YtcekpngkfldgkaaGreatDoor
set_option linter.unusedVariables false
set_option linter.unusedSimpArgs false
open Go.RowKit Go.Extern.Stop Go.Stop Go.Extern

end Go.Proofs.YtcekpngkfldgkaaGreatDoor

