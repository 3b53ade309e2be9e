/- Contracts of this seat: Law, Syh. -/
import Derived.Test.YtpofabebmeickaaDoorCards
import Derived.Test.YtpofabebmeickaaDoorTie
import Derived.Test.YtpofabebmeickaaDoorZa
import Derived.ProofKit
import Derived.OpenShut
import Derived.LaidHandle
import Derived.Deep.DeepHandedRow
import Derived.WideKeyArgs
import Derived.Test.YtpofabebmeickaaDoorZm
import Derived.Deep.RegionHeld3
import Derived.Deep.RegionWith
/- What closes a law of this seat: from the walk (it returns true, and nothing that was there has changed) to the card. -/
namespace Go.Proofs.YtpofabebmeickaaDoor
set_option linter.unusedVariables false
set_option linter.unusedSimpArgs false
open Go.ChangeShapes Go.WideShapes Go.ChangeAt Go.RowKit

section
variable {H : Type} {enc : TypeId × Value → H} {P : Program}
theorem trodAll_stays (hl : laidOutB P = true) {W W' : World} (hb : Ext W W') {sp : Nat → Bool} :
    ∀ {ts : List TypeId} {vs : List Value} {ds : List (DataW H)} {ps : List MemPlace}, (∀ t ∈ ts, P.readableRec t = true ∧ t < P.types.size) → DataW.TrodAll enc P W 0 (fun _ => true) true ts vs ds ps →
      (∀ x ∈ ps, x.block < W.heap.size) → (∀ x ∈ ps, sp x.block = true) → DataW.TrodAll enc P W' 0 sp true ts vs ds ps
  | [], _, _, _, _, h, _, _ => by
    obtain ⟨rfl, rfl, rfl⟩ := trodAll_nil h
    exact rfl
  | t :: ts, _, _, _, hr, h, hlt, hsp => by
    obtain ⟨v, vs, d, ds, p, q, rfl, rfl, rfl, h1, h2⟩ := trodAll_cons h
    have h0 := hr t (by simp)
    exact ⟨p, q, WideElems.Trod_stays hl h0.1 h0.2 h1 (fun x hx => Below.same hb (hlt x (by simp [hx]))) (fun x hx => hsp x (by simp [hx])),
      trodAll_stays hl hb (fun t ht => hr t (by simp [ht])) h2 (fun x hx => hlt x (by simp [hx])) (fun x hx => hsp x (by simp [hx])), rfl⟩

theorem post_law {f : Func} {s : ChangeSpec} {handsOn again : Bool} {W W' : World} {args : Array Value} {ds gs : List (DataW H)} {before : List MemPlace} {tb : TypeId}
    (hl : laidOutB P = true) (hr0 : (f.params.toList.all fun t => P.readableRec t && decide (t < P.types.size)) = true)
    (hW : DataW.Whole enc P f.params.toList s.vars false W args.toList ds gs before) (hvars : s.vars = []) (hres : f.resultTypes = #[tb]) (htb : P.underlying tb = some .bool)
    (hfn : gs = [] → s.fn H (ds ++ gs) = { results := [.lit (.bool true)], args := ds }) (hb : Ext W W') :
    s.post enc P f false true handsOn again W args (.bool true) W' := by
  have hr : ∀ t ∈ f.params.toList, P.readableRec t = true ∧ t < P.types.size := fun t ht => by simpa using List.all_eq_true.1 hr0 t ht
  have hW' := hW
  obtain ⟨p, q, hA, hV, rfl, hfz, _⟩ := hW
  rw [hvars] at hV
  obtain ⟨rfl, rfl⟩ : gs = [] ∧ q = [] := by
    cases gs with
    | nil => exact ⟨rfl, hV⟩
    | cons g r => exact absurd hV (by intro h; cases h)
  have hlt : ∀ x ∈ p, x.block < W.heap.size := fun x hx => hW'.lt x (by simpa using hx)
  have e1 := hfn rfl
  have hargs : ∀ sp : Nat → Bool, (∀ x ∈ p, sp x.block = true) → DataW.TrodAll enc P W' 0 sp true f.params.toList args.toList ds p := fun sp hs => trodAll_stays hl hb hr hA hlt hs
  have hold : ∀ x ∈ p, (fun b => decide (b < W.heap.size)) x.block = true := fun x hx => by simpa using hlt x hx
  have hres' : ∀ (b : Nat) (sp : Nat → Bool) (hd : Bool), DataW.TrodAll enc P W' b sp hd f.resultTypes.toList ((Value.bool true).resultList f.resultTypes.size) [.lit (.bool true)] [] := fun b sp hd => by
    rw [hres]
    exact trodAll_cons_mk (shut_bool htb _) trodAll_mk0
  refine ⟨ds, [], p ++ [], [], p, [], hW', by rw [e1]; exact hres' _ _ _, by rw [e1]; exact hargs _ hold, by rw [e1, hvars]; exact rfl,
    World.keptBut_mono (fun x hx => ⟨hx, Or.inr (Or.inl (by simpa using hx))⟩) (Below.frame hb (· ∈ p ++ [])), fun _ => ⟨ok_one hres rfl (okWide_bool_mk htb true), _, [], ([] ++ p) ++ [], ⟨[] ++ p, [], trodAll_append (hargs _ (fun _ _ => rfl)) (hres' _ _ _), by rw [hvars]; exact rfl, rfl, ?_, fun h => by cases h⟩, ?_⟩⟩
  · intro b off hp
    have hin : MemPlace.cell b off ∈ p := by simpa using hp
    rw [Below.frozen hb (hlt _ hin)]
    exact hfz b off (by simpa using hin)
  · intro x hx _
    simpa using hx
end

theorem own : ownKnob Tryd.prog.godebug = none := by kernel_rfl
theorem laidOut' : laidOutB Tryd.prog = true := by kernel_rfl
theorem gEt : Tryd.prog.globalNamed "errors.errorType" = some 1 := by kernel_rfl
theorem rtNum : (Tryd.prog.cutTypes.find? (·.1 == "internal/reflectlite.rtype")).map (·.2) = some 143 := by kernel_rfl
theorem typesSize : Tryd.prog.types.size = 193 := by kernel_rfl
theorem oneRow : ((List.range 193).filter fun t => Tryd.prog.rowNamed t [101, 114, 114, 111, 114]) = [30] := by kernel_rfl

/-- what a row that lists errors.errorType gives -/
theorem et_of_handles {hs : List (String × DataW Unit)} {W : World} (hm : ("errors.errorType", Rows.laid_errors_errorType) ∈ hs) (h : handlesMet Tryd.prog hs W) : EtIs W := by
  obtain ⟨name, u, ty, e1, e2, e3, e4, e5⟩ := h _ hm
  have en : name = [101, 114, 114, 111, 114] := (Option.some.inj e1).symm
  subst en
  obtain rfl := Option.some.inj (rtNum.symm.trans e2)
  have hm : ty ∈ (List.range 193).filter fun t => Tryd.prog.rowNamed t [101, 114, 114, 111, 114] := List.mem_filter.2 ⟨List.mem_range.2 (by rw [← typesSize]; exact e3), e4⟩
  rw [oneRow] at hm
  obtain rfl := List.mem_singleton.1 hm
  have hh : typeHandle Tryd.prog 30 = .pointer (some ⟨2, 30, none⟩) := by kernel_rfl
  rw [hh] at e5
  have := World.var?_cell gEt e5 0
  simpa [EtIs] using this

theorem et_of_laid {W : World} (h : laidMetH Tryd.prog [("errors.errorType", Rows.laid_errors_errorType)] W) : EtIs W := by
  have h' : laidMet Tryd.prog [] W ∧ handlesMet Tryd.prog [("errors.errorType", Rows.laid_errors_errorType)] W := h
  exact et_of_handles (List.mem_singleton.2 rfl) h'.2

/-- a world that meets what the rows list -/
noncomputable def laidWorld (os : Os) : World :=
  let w0 := World.holding Tryd.prog os ⟨#[], #[], []⟩
  { w0 with heap := w0.heap.modify 1 fun
      | .cells _ t frozen => .cells #[.iface 143 (.agg #[.pointer (some ⟨2, 30, none⟩)])] t frozen
      | o => o }
theorem laidWorld_met (os : Os) (args : Array Value) : laidMetH Tryd.prog [("errors.errorType", Rows.laid_errors_errorType)] ((laidWorld os).forCall (fun _ _ => 0) ⟨#[], args, []⟩).memory :=
  laidMetH_of_parts (laidMet_nil _ _) (by kernel_rfl)
end Go.Proofs.YtpofabebmeickaaDoor

/- kinlaw20.SyntaxHeads. -/
namespace Go.Proofs.YtpofabebmeickaaDoor
set_option linter.unusedVariables false
set_option linter.unusedSimpArgs false
open Go.RowKit Go.Extern.Stop Go.Stop Go.Extern

theorem rerr_form {w : World} {f : Fall} {c : Int} {v : Value} (h : RErrIs w f c v) : ∃ a n k, v = .slice a n k := by
  cases f with
  | none => exact ⟨_, _, _, h.2⟩
  | some p =>
    obtain ⟨p, c'⟩ := p
    obtain ⟨-, -, a, cap, rfl, -⟩ := h
    exact ⟨_, _, _, rfl⟩
set_option maxHeartbeats 4000000 in
set_option maxRecDepth 20000 in
theorem heads20 (k q k2 : Int) (bs cs : List Nat) (v v2 : Value) (w : World) (hg : EtIs w) (h : Row w v bs.length (bs.map fun x : Nat => Value.int .u8 (x : Int))) (hb : ∀ x ∈ bs, x < 256) (hc : Row w v2 cs.length (cs.map fun x : Nat => Value.int .u8 (x : Int))) (hcb : ∀ x ∈ cs, x < 256) : Calls Tryd.prog 3 #[.agg #[.int .i64 k, .int .i64 q, v], .agg #[.int .i64 k2, v2]] w fun e w' => e = .returned (.bool true) ∧ Ext w w' := by
  obtain ⟨va, vc, rfl⟩ := h.form
  obtain ⟨ua, uc, rfl⟩ := hc.form
  obtain ⟨n, hn⟩ : ∃ n, bs.length = n := ⟨_, rfl⟩
  obtain ⟨m, hm⟩ : ∃ m, cs.length = m := ⟨_, rfl⟩
  have HN := Lib.hid hn
  have HM := Lib.hid hm
  rw [hn] at h ⊢
  rw [hm] at hc ⊢
  have A0 := (BoxIs.new w #[.int .i64 k, .int .i64 q, .slice va n vc] 24).ext ((Ext.refl _).alloc (.cells #[.int .i64 k2, .slice ua m uc] 26))
  have A1 := BoxIs.new (w.alloc (.cells #[.int .i64 k, .int .i64 q, .slice va n vc] 24)) #[.int .i64 k2, .slice ua m uc] 26
  have hs : (w.alloc (.cells #[.int .i64 k, .int .i64 q, .slice va n vc] 24)).heap.size = w.heap.size + 1 := by simp
  rw [hs] at A1
  have E2 := ((Ext.refl w).alloc (.cells #[.int .i64 k, .int .i64 q, .slice va n vc] 24)).alloc (.cells #[.int .i64 k2, .slice ua m uc] 26)
  obtain ⟨w2, hw2⟩ : ∃ z, (w.alloc (.cells #[.int .i64 k, .int .i64 q, .slice va n vc] 24)).alloc (.cells #[.int .i64 k2, .slice ua m uc] 26) = z := ⟨_, rfl⟩
  rw [hw2] at A0 A1 E2
  have HW2 := Lib.hid hw2
  have A0 := Lib.hid A0
  have A1 := Lib.hid A1
  have HBR := Lib.hid (h.ext E2)
  have HCR := Lib.hid (hc.ext E2)
  have HBB := Lib.hid hb
  have HCB := Lib.hid hcb
  have HG := Lib.hid (hg.ext E2)
  have E2 := Lib.hid E2
  clear hw2 hs h hc hg hn hm hb hcb
  go_enter Tryd.func3, Tryd.ntmps3
  go_wp2_with fail
  have hw2 := HW2.out
  rw [hw2]
  clear hw2 HW2
  refine (first20_any _ HG.out).mono ?_; rintro e w3 ⟨rfl, x3⟩
  have E3 := Lib.hid x3
  have c0 := (A0.out.ext x3).cell (i := 0) (v := .int .i64 k) rfl
  have c1 := (A0.out.ext x3).cell (i := 1) (v := .int .i64 q) rfl
  have c2 := (A0.out.ext x3).cell (i := 2) (v := .slice va n vc) rfl
  have d0 := (A1.out.ext x3).cell (i := 0) (v := .int .i64 k2) rfl
  have d1 := (A1.out.ext x3).cell (i := 1) (v := .slice ua m uc) rfl
  clear x3
  have short : ∀ b : Bool, b = true → True := fun _ _ => trivial
  by_cases h1 : 70000 < n
  · have h1' : (70000 : Int) < (n : Int) := by omega
    go_wp2_with fail
    refine (first20_any _ (HG.out.ext E3.out)).mono ?_; rintro e w4 ⟨rfl, x4⟩
    go_wp2
    go_ret
    exact ⟨rfl, E2.out.trans (E3.out.trans x4)⟩
  have h1' : ¬ (70000 : Int) < (n : Int) := by omega
  by_cases h2 : 70000 < m
  · have h2' : (70000 : Int) < (m : Int) := by omega
    go_wp2_with fail
    refine (first20_any _ (HG.out.ext E3.out)).mono ?_; rintro e w4 ⟨rfl, x4⟩
    go_wp2
    go_ret
    exact ⟨rfl, E2.out.trans (E3.out.trans x4)⟩
  have h2' : ¬ (70000 : Int) < (m : Int) := by omega
  have HL : Hid (bs.length ≤ 1000000) := by show _ ≤ _; rw [HN.out]; omega
  have HLC : Hid (cs.length ≤ 1000000) := by show _ ≤ _; rw [HM.out]; omega
  have HB : Hid (Bys w2 (.slice va n vc) bs) := Lib.hid ⟨by rw [HN.out]; exact HBR.out, HBB.out, Nat.le_trans HL.out (by decide)⟩
  have HC : Hid (Bys w2 (.slice ua m uc) cs) := Lib.hid ⟨by rw [HM.out]; exact HCR.out, HCB.out, Nat.le_trans HLC.out (by decide)⟩
  clear h1 h2 short HBR HCR HBB HCB
  go_wp2_with fail
  refine (cpb_any bs _ _ (HB.out.ext E3.out)).mono ?_; rintro e w4 ⟨u4, rfl, hown, x4⟩
  have hU := Bys.of_owns hown HB.out.2.1 (Nat.le_trans HL.out (by decide))
  obtain ⟨ia, ic, rfl⟩ := hU.form
  rw [HN.out] at hU
  have HU := Lib.hid hU
  have E4 := Lib.hid (E3.out.trans x4)
  clear hU hown x4 c0 c1 c2 d0 d1
  have c0 := (A0.out.ext E4.out).cell (i := 0) (v := .int .i64 k) rfl
  have c1 := (A0.out.ext E4.out).cell (i := 1) (v := .int .i64 q) rfl
  obtain ⟨⟨K1, D1⟩, hp1⟩ : ∃ r, pkV k q bs = r := ⟨_, rfl⟩
  obtain ⟨f1, hf1⟩ : ∃ r, pkF k q bs.length = r := ⟨_, rfl⟩
  obtain ⟨⟨K2, Q2, D2⟩, hp2⟩ : ∃ r, rdV k2 cs = r := ⟨_, rfl⟩
  obtain ⟨f2, hf2⟩ : ∃ r, rdF k2 cs = r := ⟨_, rfl⟩
  have P1 := Lib.hid (fun (u : Value) (W : World) (h : Bys W u bs) => pack_any k q bs u W h HL.out)
  have R1 := Lib.hid (fun (u : Value) (W : World) (h : Bys W u bs) => rpack_any k q bs u W h HL.out)
  have P2 := Lib.hid (fun (u : Value) (W : World) (h : Bys W u cs) => read_any k2 cs u W h HLC.out)
  have R2 := Lib.hid (fun (u : Value) (W : World) (h : Bys W u cs) => rread_any k2 cs u W h HLC.out)
  rw [hp1, hf1] at P1 R1
  rw [hp2, hf2] at P2 R2
  rw [HN.out]
  go_wp2_with fail
  refine (P1.out _ _ HU.out).mono ?_; rintro e w5 ⟨pu, px, rfl, hpu, hpe, x5⟩
  obtain ⟨pa, pc, rfl⟩ := hpu.form
  have X5 := Lib.hid (x5.alloc (.cells #[.int .i64 K1, .slice pa D1.length pc] 26))
  have B5 := Lib.hid (BoxIs.new w5 #[.int .i64 K1, .slice pa D1.length pc] 26)
  have Y5 := Lib.hid (hpe.ext ((Ext.refl w5).alloc (.cells #[.int .i64 K1, .slice pa D1.length pc] 26)))
  have Z5 := Lib.hid (hpu.ext ((Ext.refl w5).alloc (.cells #[.int .i64 K1, .slice pa D1.length pc] 26)))
  have E5 := Lib.hid (E4.out.trans X5.out)
  clear c0 c1 x5 hpu hpe P1
  have c0 := (A0.out.ext E5.out).cell (i := 0) (v := .int .i64 k) rfl
  have c1 := (A0.out.ext E5.out).cell (i := 1) (v := .int .i64 q) rfl
  have c2 := (A0.out.ext E5.out).cell (i := 2) (v := .slice va n vc) rfl
  go_wp2_with fail
  generalize hv5 : w5.alloc (.cells #[.int .i64 K1, .slice pa D1.length pc] 26) = v5
  rw [hv5] at X5 B5 Y5 Z5 E5
  clear hv5 c0 c1 c2
  refine (R1.out _ _ (HB.out.ext E5.out)).mono ?_; rintro e w6 ⟨ru, rc, rx, rfl, hru, hre, x6⟩
  obtain ⟨ra, rk, rfl⟩ := hru.form
  obtain ⟨xa, xn, xk, rfl⟩ := rerr_form hre
  have e6 := ((Ext.refl w6).alloc (.cells #[.int .i64 K1, .slice ra D1.length rk] 26)).alloc (.cells #[.int .i64 rc, .slice xa xn xk] 36)
  have L2 := (BoxIs.new w6 #[.int .i64 K1, .slice ra D1.length rk] 26).ext ((Ext.refl _).alloc (.cells #[.int .i64 rc, .slice xa xn xk] 36))
  have L3 := BoxIs.new (w6.alloc (.cells #[.int .i64 K1, .slice ra D1.length rk] 26)) #[.int .i64 rc, .slice xa xn xk] 36
  have hs6 : (w6.alloc (.cells #[.int .i64 K1, .slice ra D1.length rk] 26)).heap.size = w6.heap.size + 1 := by simp
  rw [hs6] at L3
  have r6 := hru.ext e6
  have t6 := hre.ext e6
  have X6 := x6.trans e6
  clear hs6 hru hre x6 e6 R1
  have c0 := (A1.out.ext (E5.out.trans X6)).cell (i := 0) (v := .int .i64 k2) rfl
  have c1 := (A1.out.ext (E5.out.trans X6)).cell (i := 1) (v := .slice ua m uc) rfl
  go_wp2_with fail
  generalize hv6 : (w6.alloc (.cells #[.int .i64 K1, .slice ra D1.length rk] 26)).alloc (.cells #[.int .i64 rc, .slice xa xn xk] 36) = v6 at L2 L3 r6 t6 X6 ⊢
  clear hv6 c0 c1
  have L2 := Lib.hid L2
  have L3 := Lib.hid L3
  have R6 := Lib.hid r6
  have T6 := Lib.hid t6
  have X6 := Lib.hid X6
  have E6 := Lib.hid (E5.out.trans X6.out)
  clear r6 t6
  refine (P2.out _ _ (HC.out.ext E6.out)).mono ?_; rintro e w7 ⟨qu, qx, rfl, hqu, hqe, x7⟩
  obtain ⟨qa, qc, rfl⟩ := hqu.form
  have X7 := Lib.hid (x7.alloc (.cells #[.int .i64 K2, .int .i64 Q2, .slice qa D2.length qc] 24))
  have L4 := Lib.hid (BoxIs.new w7 #[.int .i64 K2, .int .i64 Q2, .slice qa D2.length qc] 24)
  have Y7 := Lib.hid (hqe.ext ((Ext.refl w7).alloc (.cells #[.int .i64 K2, .int .i64 Q2, .slice qa D2.length qc] 24)))
  have Z7 := Lib.hid (hqu.ext ((Ext.refl w7).alloc (.cells #[.int .i64 K2, .int .i64 Q2, .slice qa D2.length qc] 24)))
  have E7 := Lib.hid (E6.out.trans X7.out)
  clear x7 hqu hqe P2
  have c0 := (A1.out.ext E7.out).cell (i := 0) (v := .int .i64 k2) rfl
  have c1 := (A1.out.ext E7.out).cell (i := 1) (v := .slice ua m uc) rfl
  go_wp2_with fail
  generalize hv7 : w7.alloc (.cells #[.int .i64 K2, .int .i64 Q2, .slice qa D2.length qc] 24) = v7
  rw [hv7] at X7 L4 Y7 Z7 E7
  clear hv7 c0 c1
  refine (R2.out _ _ (HC.out.ext E7.out)).mono ?_; rintro e w8 ⟨su, zc, zx, rfl, hsu, hse, x8⟩
  obtain ⟨sa, sk, rfl⟩ := hsu.form
  obtain ⟨za, zn, zk, rfl⟩ := rerr_form hse
  have e8 := ((Ext.refl w8).alloc (.cells #[.int .i64 K2, .int .i64 Q2, .slice sa D2.length sk] 39)).alloc (.cells #[.int .i64 zc, .slice za zn zk] 36)
  have L5 := (BoxIs.new w8 #[.int .i64 K2, .int .i64 Q2, .slice sa D2.length sk] 39).ext ((Ext.refl _).alloc (.cells #[.int .i64 zc, .slice za zn zk] 36))
  have L6 := BoxIs.new (w8.alloc (.cells #[.int .i64 K2, .int .i64 Q2, .slice sa D2.length sk] 39)) #[.int .i64 zc, .slice za zn zk] 36
  have hs8 : (w8.alloc (.cells #[.int .i64 K2, .int .i64 Q2, .slice sa D2.length sk] 39)).heap.size = w8.heap.size + 1 := by simp
  rw [hs8] at L6
  have r8 := hsu.ext e8
  have t8 := hse.ext e8
  have X8 := x8.trans e8
  clear hs8 hsu hse x8 e8 R2
  go_wp2_with fail
  generalize hv8 : (w8.alloc (.cells #[.int .i64 K2, .int .i64 Q2, .slice sa D2.length sk] 39)).alloc (.cells #[.int .i64 zc, .slice za zn zk] 36) = v8 at L5 L6 r8 t8 X8 ⊢
  clear hv8
  have E8 := Lib.hid (E7.out.trans X8)
  have R6 := Lib.hid (R6.out.ext (X7.out.trans X8))
  have T6 := Lib.hid (T6.out.ext (X7.out.trans X8))
  have L1 := Lib.hid (B5.out.ext (X6.out.trans (X7.out.trans X8)))
  have Z5 := Lib.hid (Z5.out.ext (X6.out.trans (X7.out.trans X8)))
  have Y5 := Lib.hid (Y5.out.ext (X6.out.trans (X7.out.trans X8)))
  have L2 := Lib.hid (L2.out.ext (X7.out.trans X8))
  have L3 := Lib.hid (L3.out.ext (X7.out.trans X8))
  have L4 := Lib.hid (L4.out.ext X8)
  have Y7 := Lib.hid (Y7.out.ext X8)
  have Z7 := Lib.hid (Z7.out.ext X8)
  have L5 := Lib.hid L5
  have L6 := Lib.hid L6
  have R8 := Lib.hid r8
  have T8 := Lib.hid t8
  have HU := Lib.hid (HU.out.ext (X5.out.trans (X6.out.trans (X7.out.trans X8))))
  have HB := Lib.hid (HB.out.ext E8.out)
  have HC := Lib.hid (HC.out.ext E8.out)
  have HG := Lib.hid (HG.out.ext E8.out)
  have A0 := Lib.hid (A0.out.ext E8.out)
  have A1 := Lib.hid (A1.out.ext E8.out)
  have EE := Lib.hid (E2.out.trans E8.out)
  clear r8 t8 X8 X7 X6 X5 E8 E7 E6 E5 E4 E3 E2 B5
  have K0 : Hid (∀ w', Ext v8 w' → w'.cell? ⟨w5.heap.size, 0, none⟩ = some (.int .i64 K1) ∧ w'.cell? ⟨w5.heap.size, 1, none⟩ = some (.slice pa D1.length pc) ∧ w'.cell? ⟨w6.heap.size, 0, none⟩ = some (.int .i64 K1) ∧ w'.cell? ⟨w6.heap.size, 1, none⟩ = some (.slice ra D1.length rk) ∧ w'.cell? ⟨w6.heap.size + 1, 0, none⟩ = some (.int .i64 rc) ∧ w'.cell? ⟨w6.heap.size + 1, 1, none⟩ = some (.slice xa xn xk) ∧ w'.cell? ⟨w7.heap.size, 0, none⟩ = some (.int .i64 K2) ∧ w'.cell? ⟨w7.heap.size, 1, none⟩ = some (.int .i64 Q2) ∧ w'.cell? ⟨w7.heap.size, 2, none⟩ = some (.slice qa D2.length qc) ∧ w'.cell? ⟨w8.heap.size, 0, none⟩ = some (.int .i64 K2) ∧ w'.cell? ⟨w8.heap.size, 1, none⟩ = some (.int .i64 Q2) ∧ w'.cell? ⟨w8.heap.size, 2, none⟩ = some (.slice sa D2.length sk) ∧ w'.cell? ⟨w8.heap.size + 1, 0, none⟩ = some (.int .i64 zc) ∧ w'.cell? ⟨w8.heap.size + 1, 1, none⟩ = some (.slice za zn zk) ∧ w'.cell? ⟨w.heap.size + 1, 0, none⟩ = some (.int .i64 k2) ∧ w'.cell? ⟨w.heap.size + 1, 1, none⟩ = some (.slice ua m uc) ∧ w'.cell? ⟨w.heap.size, 2, none⟩ = some (.slice va n vc) ∧ Ext v8 w') := fun w' h => ⟨(L1.out.ext h).cell rfl, (L1.out.ext h).cell rfl, (L2.out.ext h).cell rfl, (L2.out.ext h).cell rfl, (L3.out.ext h).cell rfl, (L3.out.ext h).cell rfl, (L4.out.ext h).cell rfl, (L4.out.ext h).cell rfl, (L4.out.ext h).cell rfl, (L5.out.ext h).cell rfl, (L5.out.ext h).cell rfl, (L5.out.ext h).cell rfl, (L6.out.ext h).cell rfl, (L6.out.ext h).cell rfl, (A1.out.ext h).cell rfl, (A1.out.ext h).cell rfl, (A0.out.ext h).cell rfl, h⟩
  have kk : (K2 == K2) = true := beq_self_eq_true K2
  have qq : (Q2 == Q2) = true := beq_self_eq_true Q2
  have e8 : IntKind.i64.wrap (8 + (m : Int)) = (m : Int) + 8 := by rw [IntKind.wrap_i64]; omega
  have mm : ((m : Int) + 8 == (m : Int) + 8) = true := beq_self_eq_true _
  refine wp_region_held_drew (S := fun w' => w'.cell? ⟨w5.heap.size, 0, none⟩ = some (.int .i64 K1) ∧ w'.cell? ⟨w5.heap.size, 1, none⟩ = some (.slice pa D1.length pc) ∧ w'.cell? ⟨w6.heap.size, 0, none⟩ = some (.int .i64 K1) ∧ w'.cell? ⟨w6.heap.size, 1, none⟩ = some (.slice ra D1.length rk) ∧ w'.cell? ⟨w6.heap.size + 1, 0, none⟩ = some (.int .i64 rc) ∧ w'.cell? ⟨w6.heap.size + 1, 1, none⟩ = some (.slice xa xn xk) ∧ w'.cell? ⟨w7.heap.size, 0, none⟩ = some (.int .i64 K2) ∧ w'.cell? ⟨w7.heap.size, 1, none⟩ = some (.int .i64 Q2) ∧ w'.cell? ⟨w7.heap.size, 2, none⟩ = some (.slice qa D2.length qc) ∧ w'.cell? ⟨w8.heap.size, 0, none⟩ = some (.int .i64 K2) ∧ w'.cell? ⟨w8.heap.size, 1, none⟩ = some (.int .i64 Q2) ∧ w'.cell? ⟨w8.heap.size, 2, none⟩ = some (.slice sa D2.length sk) ∧ w'.cell? ⟨w8.heap.size + 1, 0, none⟩ = some (.int .i64 zc) ∧ w'.cell? ⟨w8.heap.size + 1, 1, none⟩ = some (.slice za zn zk) ∧ w'.cell? ⟨w.heap.size + 1, 0, none⟩ = some (.int .i64 k2) ∧ w'.cell? ⟨w.heap.size + 1, 1, none⟩ = some (.slice ua m uc) ∧ w'.cell? ⟨w.heap.size, 2, none⟩ = some (.slice va n vc) ∧ Ext v8 w') (by kernel_rfl) (K0.out _ (Ext.refl _).drew) (fun hHeld => ?_)
  refine wpAnyH_ready (rs := [0]) (by kernel_rfl) (by simp) ?_
  refine AllReadyH.cons (o := { dst := some 61, op := Op.call { callee := Callee.value (Operand.func 6), args := #[], argTypes := #[] }, type := 4, pos := "law.go:86", after := #[], guard := none }) rfl (fun K hK => ?_) AllReadyH.nil
  go_simp
  go_at_call 6
  refine (first20_any _ (HG.out.ext (Ext.refl _).drew)).mono ?_; rintro e w9 ⟨rfl, x9⟩
  have X9 := Lib.hid ((Ext.refl v8).drew.trans x9)
  clear x9
  refine hK.out _ _ (K0.out _ X9.out) (fun hHeld => ?_)
  clear hK K
  try simp only [Act.put, List.setIfInBounds_toArray, List.set_cons_zero, List.set_cons_succ]
  refine wpAnyH_take (i := 1) (oi := { dst := some 62, op := Op.move (Operand.tmp 61), type := 4, pos := "law.go:86", after := #[{ on := 0, ground := Ground.data }, { on := 0, ground := Ground.chain }], guard := none }) (v := ?_) rfl (by kernel_rfl) (by kernel_rfl) (by kernel_rfl) (fun _ _ _ h => h) (Or.inl ⟨by rfl, ?_⟩) (by assumption) ?_
  case refine_2 => (intro w hSw; (try dsimp only at hSw); go_simp; (try with_reducible rfl))
  try simp only [Act.put, List.setIfInBounds_toArray, List.set_cons_zero, List.set_cons_succ]
  refine wpAnyH_take (i := 2) (oi := { dst := some 63, op := Op.load 26 (Operand.tmp 6), type := 26, pos := "law.go:86", after := #[{ on := 1, ground := Ground.guard }], guard := some (1, true) }) (v := ?_) rfl (by kernel_rfl) (by kernel_rfl) (by kernel_rfl) (fun _ _ _ h => h) (Or.inl ⟨by rfl, ?_⟩) (by assumption) ?_
  case refine_2 => (intro w hSw; (try dsimp only at hSw); go_simp; (try with_reducible rfl))
  try simp only [Act.put, List.setIfInBounds_toArray, List.set_cons_zero, List.set_cons_succ]
  refine wpAnyH_take (i := 3) (oi := { dst := some 64, op := Op.load 26 (Operand.tmp 8), type := 26, pos := "law.go:86", after := #[{ on := 1, ground := Ground.guard }], guard := some (1, true) }) (v := ?_) rfl (by kernel_rfl) (by kernel_rfl) (by kernel_rfl) (fun _ _ _ h => h) (Or.inl ⟨by rfl, ?_⟩) (by assumption) ?_
  case refine_2 => (intro w hSw; (try dsimp only at hSw); go_simp; (try with_reducible rfl))
  try simp only [Act.put, List.setIfInBounds_toArray, List.set_cons_zero, List.set_cons_succ]
  refine wpAnyH_ready (rs := [4]) (by kernel_rfl) (by simp) ?_
  refine AllReadyH.cons (o := { dst := some 65, op := Op.call { callee := Callee.value (Operand.func 12), args := #[Operand.tmp 63, Operand.tmp 64], argTypes := #[26, 26] }, type := 4, pos := "law.go:86", after := #[{ on := 2, ground := Ground.data }, { on := 3, ground := Ground.data }, { on := 1, ground := Ground.chain }, { on := 1, ground := Ground.guard }], guard := some (1, true) }) rfl (fun K hK => ?_) AllReadyH.nil
  go_simp
  go_at_call 12
  refine (coded_same K1 D1 _ _ _ (Z5.out.ext X9.out) (R6.out.ext X9.out)).mono ?_; rintro e wA ⟨rfl, xA⟩
  have XA := Lib.hid (X9.out.trans xA)
  clear xA
  refine hK.out _ _ (K0.out _ XA.out) (fun hHeld => ?_)
  clear hK K
  try simp only [Act.put, List.setIfInBounds_toArray, List.set_cons_zero, List.set_cons_succ]
  refine wpAnyH_take (i := 5) (oi := { dst := some 66, op := Op.pick (Operand.tmp 62) (Operand.tmp 65) (Operand.const (Value.bool false)), type := 4, pos := "law.go:86", after := #[{ on := 1, ground := Ground.data }, { on := 4, ground := Ground.data }], guard := none }) (v := ?_) rfl (by kernel_rfl) (by kernel_rfl) (by kernel_rfl) (fun _ _ _ h => h) (Or.inl ⟨by rfl, ?_⟩) (by assumption) ?_
  case refine_2 => (intro w hSw; (try dsimp only at hSw); go_simp; (try with_reducible rfl))
  try simp only [Act.put, List.setIfInBounds_toArray, List.set_cons_zero, List.set_cons_succ]
  refine wpAnyH_take (i := 6) (oi := { dst := some 67, op := Op.move (Operand.tmp 66), type := 4, pos := "law.go:86", after := #[{ on := 5, ground := Ground.data }, { on := 4, ground := Ground.chain }], guard := none }) (v := ?_) rfl (by kernel_rfl) (by kernel_rfl) (by kernel_rfl) (fun _ _ _ h => h) (Or.inl ⟨by rfl, ?_⟩) (by assumption) ?_
  case refine_2 => (intro w hSw; (try dsimp only at hSw); go_simp; (try with_reducible rfl))
  try simp only [Act.put, List.setIfInBounds_toArray, List.set_cons_zero, List.set_cons_succ]
  refine wpAnyH_take (i := 7) (oi := { dst := some 68, op := Op.move (Operand.tmp 7), type := 30, pos := "law.go:86", after := #[{ on := 6, ground := Ground.guard }], guard := some (6, true) }) (v := ?_) rfl (by kernel_rfl) (by kernel_rfl) (by kernel_rfl) (fun _ _ _ h => h) (Or.inl ⟨by rfl, ?_⟩) (by assumption) ?_
  case refine_2 => (intro w hSw; (try dsimp only at hSw); go_simp; (try with_reducible rfl))
  try simp only [Act.put, List.setIfInBounds_toArray, List.set_cons_zero, List.set_cons_succ]
  refine wpAnyH_take (i := 8) (oi := { dst := some 69, op := Op.load 36 (Operand.tmp 9), type := 36, pos := "law.go:86", after := #[{ on := 6, ground := Ground.guard }], guard := some (6, true) }) (v := ?_) rfl (by kernel_rfl) (by kernel_rfl) (by kernel_rfl) (fun _ _ _ h => h) (Or.inl ⟨by rfl, ?_⟩) (by assumption) ?_
  case refine_2 => (intro w hSw; (try dsimp only at hSw); go_simp; (try with_reducible rfl))
  try simp only [Act.put, List.setIfInBounds_toArray, List.set_cons_zero, List.set_cons_succ]
  refine wpAnyH_ready (rs := [9]) (by kernel_rfl) (by simp) ?_
  refine AllReadyH.cons (o := { dst := some 70, op := Op.call { callee := Callee.value (Operand.func 13), args := #[Operand.tmp 68, Operand.tmp 69], argTypes := #[30, 36] }, type := 4, pos := "law.go:86", after := #[{ on := 7, ground := Ground.data }, { on := 8, ground := Ground.data }, { on := 6, ground := Ground.chain }, { on := 6, ground := Ground.guard }], guard := some (6, true) }) rfl (fun K hK => ?_) AllReadyH.nil
  go_simp
  go_at_call 13
  refine (same_fall f1 _ _ _ _ (HG.out.ext XA.out) (Y5.out.ext XA.out) (T6.out.ext XA.out)).mono ?_; rintro e wB ⟨rfl, xB⟩
  have XB := Lib.hid (XA.out.trans xB)
  clear xB
  refine hK.out _ _ (K0.out _ XB.out) (fun hHeld => ?_)
  clear hK K
  try simp only [Act.put, List.setIfInBounds_toArray, List.set_cons_zero, List.set_cons_succ]
  refine wpAnyH_take (i := 10) (oi := { dst := some 71, op := Op.pick (Operand.tmp 67) (Operand.tmp 70) (Operand.const (Value.bool false)), type := 4, pos := "law.go:86", after := #[{ on := 6, ground := Ground.data }, { on := 9, ground := Ground.data }], guard := none }) (v := ?_) rfl (by kernel_rfl) (by kernel_rfl) (by kernel_rfl) (fun _ _ _ h => h) (Or.inl ⟨by rfl, ?_⟩) (by assumption) ?_
  case refine_2 => (intro w hSw; (try dsimp only at hSw); go_simp; (try with_reducible rfl))
  try simp only [Act.put, List.setIfInBounds_toArray, List.set_cons_zero, List.set_cons_succ]
  refine wpAnyH_take (i := 11) (oi := { dst := some 72, op := Op.move (Operand.tmp 71), type := 4, pos := "law.go:86", after := #[{ on := 10, ground := Ground.data }, { on := 9, ground := Ground.chain }], guard := none }) (v := ?_) rfl (by kernel_rfl) (by kernel_rfl) (by kernel_rfl) (fun _ _ _ h => h) (Or.inl ⟨by rfl, ?_⟩) (by assumption) ?_
  case refine_2 => (intro w hSw; (try dsimp only at hSw); go_simp; (try with_reducible rfl))
  try simp only [Act.put, List.setIfInBounds_toArray, List.set_cons_zero, List.set_cons_succ]
  refine wpAnyH_take (i := 12) (oi := { dst := some 73, op := Op.fieldAddr 24 (Operand.tmp 10) 0, type := 0, pos := "law.go:86", after := #[{ on := 11, ground := Ground.guard }], guard := some (11, true) }) (v := ?_) rfl (by kernel_rfl) (by kernel_rfl) (by kernel_rfl) (fun _ _ _ h => h) (Or.inl ⟨by rfl, ?_⟩) (by assumption) ?_
  case refine_2 => (intro w hSw; (try dsimp only at hSw); go_simp; (try with_reducible rfl))
  try simp only [Act.put, List.setIfInBounds_toArray, List.set_cons_zero, List.set_cons_succ]
  refine wpAnyH_take (i := 13) (oi := { dst := some 74, op := Op.load 3 (Operand.tmp 73), type := 3, pos := "law.go:86", after := #[{ on := 12, ground := Ground.data }, { on := 11, ground := Ground.guard }], guard := some (11, true) }) (v := ?_) rfl (by kernel_rfl) (by kernel_rfl) (by kernel_rfl) (fun _ _ _ h => h) (Or.inl ⟨by rfl, ?_⟩) (by assumption) ?_
  case refine_2 => (intro w hSw; (try dsimp only at hSw); go_simp; (try with_reducible rfl))
  try simp only [Act.put, List.setIfInBounds_toArray, List.set_cons_zero, List.set_cons_succ]
  refine wpAnyH_take (i := 14) (oi := { dst := some 75, op := Op.fieldAddr 39 (Operand.tmp 12) 0, type := 0, pos := "law.go:86", after := #[{ on := 11, ground := Ground.guard }], guard := some (11, true) }) (v := ?_) rfl (by kernel_rfl) (by kernel_rfl) (by kernel_rfl) (fun _ _ _ h => h) (Or.inl ⟨by rfl, ?_⟩) (by assumption) ?_
  case refine_2 => (intro w hSw; (try dsimp only at hSw); go_simp; (try with_reducible rfl))
  try simp only [Act.put, List.setIfInBounds_toArray, List.set_cons_zero, List.set_cons_succ]
  refine wpAnyH_take (i := 15) (oi := { dst := some 76, op := Op.load 3 (Operand.tmp 75), type := 3, pos := "law.go:86", after := #[{ on := 14, ground := Ground.data }, { on := 11, ground := Ground.guard }], guard := some (11, true) }) (v := ?_) rfl (by kernel_rfl) (by kernel_rfl) (by kernel_rfl) (fun _ _ _ h => h) (Or.inl ⟨by rfl, ?_⟩) (by assumption) ?_
  case refine_2 => (intro w hSw; (try dsimp only at hSw); go_simp; (try with_reducible rfl))
  try simp only [Act.put, List.setIfInBounds_toArray, List.set_cons_zero, List.set_cons_succ]
  refine wpAnyH_take (i := 16) (oi := { dst := some 77, op := Op.binOp BinOp.eql 3 (Operand.tmp 74) (Operand.tmp 76) 3, type := 4, pos := "law.go:86", after := #[{ on := 13, ground := Ground.data }, { on := 15, ground := Ground.data }, { on := 11, ground := Ground.guard }], guard := some (11, true) }) (v := ?_) rfl (by kernel_rfl) (by kernel_rfl) (by kernel_rfl) (fun _ _ _ h => h) (Or.inl ⟨by rfl, ?_⟩) (by assumption) ?_
  case refine_2 => (intro w hSw; (try dsimp only at hSw); go_simp; (try with_reducible rfl))
  try simp only [Act.put, List.setIfInBounds_toArray, List.set_cons_zero, List.set_cons_succ]
  refine wpAnyH_take (i := 17) (oi := { dst := some 78, op := Op.pick (Operand.tmp 72) (Operand.tmp 77) (Operand.const (Value.bool false)), type := 4, pos := "law.go:86", after := #[{ on := 11, ground := Ground.data }, { on := 16, ground := Ground.data }], guard := none }) (v := ?_) rfl (by kernel_rfl) (by kernel_rfl) (by kernel_rfl) (fun _ _ _ h => h) (Or.inl ⟨by rfl, ?_⟩) (by assumption) ?_
  case refine_2 => (intro w hSw; (try dsimp only at hSw); go_simp; (try with_reducible rfl))
  try simp only [Act.put, List.setIfInBounds_toArray, List.set_cons_zero, List.set_cons_succ]
  refine wpAnyH_take (i := 18) (oi := { dst := some 79, op := Op.move (Operand.tmp 78), type := 4, pos := "law.go:86", after := #[{ on := 17, ground := Ground.data }, { on := 11, ground := Ground.chain }], guard := none }) (v := ?_) rfl (by kernel_rfl) (by kernel_rfl) (by kernel_rfl) (fun _ _ _ h => h) (Or.inl ⟨by rfl, ?_⟩) (by assumption) ?_
  case refine_2 => (intro w hSw; (try dsimp only at hSw); go_simp; (try with_reducible rfl))
  try simp only [Act.put, List.setIfInBounds_toArray, List.set_cons_zero, List.set_cons_succ]
  refine wpAnyH_take (i := 19) (oi := { dst := some 80, op := Op.fieldAddr 24 (Operand.tmp 10) 1, type := 0, pos := "law.go:86", after := #[{ on := 18, ground := Ground.guard }], guard := some (18, true) }) (v := ?_) rfl (by kernel_rfl) (by kernel_rfl) (by kernel_rfl) (fun _ _ _ h => h) (Or.inl ⟨by rfl, ?_⟩) (by assumption) ?_
  case refine_2 => (intro w hSw; (try dsimp only at hSw); go_simp; (try with_reducible rfl))
  try simp only [Act.put, List.setIfInBounds_toArray, List.set_cons_zero, List.set_cons_succ]
  refine wpAnyH_take (i := 20) (oi := { dst := some 81, op := Op.load 3 (Operand.tmp 80), type := 3, pos := "law.go:86", after := #[{ on := 19, ground := Ground.data }, { on := 18, ground := Ground.guard }], guard := some (18, true) }) (v := ?_) rfl (by kernel_rfl) (by kernel_rfl) (by kernel_rfl) (fun _ _ _ h => h) (Or.inl ⟨by rfl, ?_⟩) (by assumption) ?_
  case refine_2 => (intro w hSw; (try dsimp only at hSw); go_simp; (try with_reducible rfl))
  try simp only [Act.put, List.setIfInBounds_toArray, List.set_cons_zero, List.set_cons_succ]
  refine wpAnyH_take (i := 21) (oi := { dst := some 82, op := Op.fieldAddr 39 (Operand.tmp 12) 1, type := 0, pos := "law.go:86", after := #[{ on := 18, ground := Ground.guard }], guard := some (18, true) }) (v := ?_) rfl (by kernel_rfl) (by kernel_rfl) (by kernel_rfl) (fun _ _ _ h => h) (Or.inl ⟨by rfl, ?_⟩) (by assumption) ?_
  case refine_2 => (intro w hSw; (try dsimp only at hSw); go_simp; (try with_reducible rfl))
  try simp only [Act.put, List.setIfInBounds_toArray, List.set_cons_zero, List.set_cons_succ]
  refine wpAnyH_take (i := 22) (oi := { dst := some 83, op := Op.load 3 (Operand.tmp 82), type := 3, pos := "law.go:86", after := #[{ on := 21, ground := Ground.data }, { on := 18, ground := Ground.guard }], guard := some (18, true) }) (v := ?_) rfl (by kernel_rfl) (by kernel_rfl) (by kernel_rfl) (fun _ _ _ h => h) (Or.inl ⟨by rfl, ?_⟩) (by assumption) ?_
  case refine_2 => (intro w hSw; (try dsimp only at hSw); go_simp; (try with_reducible rfl))
  try simp only [Act.put, List.setIfInBounds_toArray, List.set_cons_zero, List.set_cons_succ]
  refine wpAnyH_take (i := 23) (oi := { dst := some 84, op := Op.binOp BinOp.eql 3 (Operand.tmp 81) (Operand.tmp 83) 3, type := 4, pos := "law.go:86", after := #[{ on := 20, ground := Ground.data }, { on := 22, ground := Ground.data }, { on := 18, ground := Ground.guard }], guard := some (18, true) }) (v := ?_) rfl (by kernel_rfl) (by kernel_rfl) (by kernel_rfl) (fun _ _ _ h => h) (Or.inl ⟨by rfl, ?_⟩) (by assumption) ?_
  case refine_2 => (intro w hSw; (try dsimp only at hSw); go_simp; (try with_reducible rfl))
  try simp only [Act.put, List.setIfInBounds_toArray, List.set_cons_zero, List.set_cons_succ]
  refine wpAnyH_take (i := 24) (oi := { dst := some 85, op := Op.pick (Operand.tmp 79) (Operand.tmp 84) (Operand.const (Value.bool false)), type := 4, pos := "law.go:86", after := #[{ on := 18, ground := Ground.data }, { on := 23, ground := Ground.data }], guard := none }) (v := ?_) rfl (by kernel_rfl) (by kernel_rfl) (by kernel_rfl) (fun _ _ _ h => h) (Or.inl ⟨by rfl, ?_⟩) (by assumption) ?_
  case refine_2 => (intro w hSw; (try dsimp only at hSw); go_simp; (try with_reducible rfl))
  try simp only [Act.put, List.setIfInBounds_toArray, List.set_cons_zero, List.set_cons_succ]
  refine wpAnyH_take (i := 25) (oi := { dst := some 86, op := Op.move (Operand.tmp 85), type := 4, pos := "law.go:86", after := #[{ on := 24, ground := Ground.data }, { on := 18, ground := Ground.chain }], guard := none }) (v := ?_) rfl (by kernel_rfl) (by kernel_rfl) (by kernel_rfl) (fun _ _ _ h => h) (Or.inl ⟨by rfl, ?_⟩) (by assumption) ?_
  case refine_2 => (intro w hSw; (try dsimp only at hSw); go_simp; (try with_reducible rfl))
  try simp only [Act.put, List.setIfInBounds_toArray, List.set_cons_zero, List.set_cons_succ]
  refine wpAnyH_take (i := 26) (oi := { dst := some 87, op := Op.fieldAddr 24 (Operand.tmp 10) 2, type := 0, pos := "law.go:86", after := #[{ on := 25, ground := Ground.guard }], guard := some (25, true) }) (v := ?_) rfl (by kernel_rfl) (by kernel_rfl) (by kernel_rfl) (fun _ _ _ h => h) (Or.inl ⟨by rfl, ?_⟩) (by assumption) ?_
  case refine_2 => (intro w hSw; (try dsimp only at hSw); go_simp; (try with_reducible rfl))
  try simp only [Act.put, List.setIfInBounds_toArray, List.set_cons_zero, List.set_cons_succ]
  refine wpAnyH_take (i := 27) (oi := { dst := some 88, op := Op.load 22 (Operand.tmp 87), type := 22, pos := "law.go:86", after := #[{ on := 26, ground := Ground.data }, { on := 25, ground := Ground.guard }], guard := some (25, true) }) (v := ?_) rfl (by kernel_rfl) (by kernel_rfl) (by kernel_rfl) (fun _ _ _ h => h) (Or.inl ⟨by rfl, ?_⟩) (by assumption) ?_
  case refine_2 => (intro w hSw; (try dsimp only at hSw); go_simp; (try with_reducible rfl))
  try simp only [Act.put, List.setIfInBounds_toArray, List.set_cons_zero, List.set_cons_succ]
  refine wpAnyH_take (i := 28) (oi := { dst := some 89, op := Op.fieldAddr 39 (Operand.tmp 12) 2, type := 0, pos := "law.go:86", after := #[{ on := 25, ground := Ground.guard }], guard := some (25, true) }) (v := ?_) rfl (by kernel_rfl) (by kernel_rfl) (by kernel_rfl) (fun _ _ _ h => h) (Or.inl ⟨by rfl, ?_⟩) (by assumption) ?_
  case refine_2 => (intro w hSw; (try dsimp only at hSw); go_simp; (try with_reducible rfl))
  try simp only [Act.put, List.setIfInBounds_toArray, List.set_cons_zero, List.set_cons_succ]
  refine wpAnyH_take (i := 29) (oi := { dst := some 90, op := Op.load 22 (Operand.tmp 89), type := 22, pos := "law.go:86", after := #[{ on := 28, ground := Ground.data }, { on := 25, ground := Ground.guard }], guard := some (25, true) }) (v := ?_) rfl (by kernel_rfl) (by kernel_rfl) (by kernel_rfl) (fun _ _ _ h => h) (Or.inl ⟨by rfl, ?_⟩) (by assumption) ?_
  case refine_2 => (intro w hSw; (try dsimp only at hSw); go_simp; (try with_reducible rfl))
  try simp only [Act.put, List.setIfInBounds_toArray, List.set_cons_zero, List.set_cons_succ]
  refine wpAnyH_ready (rs := [30]) (by kernel_rfl) (by simp) ?_
  refine AllReadyH.cons (o := { dst := some 91, op := Op.call { callee := Callee.value (Operand.func 14), args := #[Operand.tmp 88, Operand.tmp 90], argTypes := #[22, 22] }, type := 4, pos := "law.go:86", after := #[{ on := 27, ground := Ground.data }, { on := 29, ground := Ground.data }, { on := 25, ground := Ground.chain }, { on := 25, ground := Ground.guard }], guard := some (25, true) }) rfl (fun K hK => ?_) AllReadyH.nil
  go_simp
  go_at_call 14
  refine (bytes_same D2 _ _ _ (Z7.out.ext XB.out) (R8.out.ext XB.out)).mono ?_; rintro e wC ⟨rfl, rfl⟩
  refine hK.out _ _ (K0.out _ XB.out) (fun hHeld => ?_)
  clear hK K
  try simp only [Act.put, List.setIfInBounds_toArray, List.set_cons_zero, List.set_cons_succ]
  refine wpAnyH_take (i := 31) (oi := { dst := some 92, op := Op.pick (Operand.tmp 86) (Operand.tmp 91) (Operand.const (Value.bool false)), type := 4, pos := "law.go:86", after := #[{ on := 25, ground := Ground.data }, { on := 30, ground := Ground.data }], guard := none }) (v := ?_) rfl (by kernel_rfl) (by kernel_rfl) (by kernel_rfl) (fun _ _ _ h => h) (Or.inl ⟨by rfl, ?_⟩) (by assumption) ?_
  case refine_2 => (intro w hSw; (try dsimp only at hSw); go_simp; (try with_reducible rfl))
  try simp only [Act.put, List.setIfInBounds_toArray, List.set_cons_zero, List.set_cons_succ]
  refine wpAnyH_take (i := 32) (oi := { dst := some 93, op := Op.move (Operand.tmp 92), type := 4, pos := "law.go:86", after := #[{ on := 31, ground := Ground.data }, { on := 30, ground := Ground.chain }], guard := none }) (v := ?_) rfl (by kernel_rfl) (by kernel_rfl) (by kernel_rfl) (fun _ _ _ h => h) (Or.inl ⟨by rfl, ?_⟩) (by assumption) ?_
  case refine_2 => (intro w hSw; (try dsimp only at hSw); go_simp; (try with_reducible rfl))
  try simp only [Act.put, List.setIfInBounds_toArray, List.set_cons_zero, List.set_cons_succ]
  refine wpAnyH_take (i := 33) (oi := { dst := some 94, op := Op.move (Operand.tmp 11), type := 30, pos := "law.go:86", after := #[{ on := 32, ground := Ground.guard }], guard := some (32, true) }) (v := ?_) rfl (by kernel_rfl) (by kernel_rfl) (by kernel_rfl) (fun _ _ _ h => h) (Or.inl ⟨by rfl, ?_⟩) (by assumption) ?_
  case refine_2 => (intro w hSw; (try dsimp only at hSw); go_simp; (try with_reducible rfl))
  try simp only [Act.put, List.setIfInBounds_toArray, List.set_cons_zero, List.set_cons_succ]
  refine wpAnyH_take (i := 34) (oi := { dst := some 95, op := Op.load 36 (Operand.tmp 13), type := 36, pos := "law.go:86", after := #[{ on := 32, ground := Ground.guard }], guard := some (32, true) }) (v := ?_) rfl (by kernel_rfl) (by kernel_rfl) (by kernel_rfl) (fun _ _ _ h => h) (Or.inl ⟨by rfl, ?_⟩) (by assumption) ?_
  case refine_2 => (intro w hSw; (try dsimp only at hSw); go_simp; (try with_reducible rfl))
  try simp only [Act.put, List.setIfInBounds_toArray, List.set_cons_zero, List.set_cons_succ]
  refine wpAnyH_ready (rs := [35]) (by kernel_rfl) (by simp) ?_
  refine AllReadyH.cons (o := { dst := some 96, op := Op.call { callee := Callee.value (Operand.func 13), args := #[Operand.tmp 94, Operand.tmp 95], argTypes := #[30, 36] }, type := 4, pos := "law.go:86", after := #[{ on := 33, ground := Ground.data }, { on := 34, ground := Ground.data }, { on := 32, ground := Ground.chain }, { on := 32, ground := Ground.guard }], guard := some (32, true) }) rfl (fun K hK => ?_) AllReadyH.nil
  go_simp
  go_at_call 13
  refine (same_fall f2 _ _ _ _ (HG.out.ext XB.out) (Y7.out.ext XB.out) (T8.out.ext XB.out)).mono ?_; rintro e wD ⟨rfl, xD⟩
  have XD := Lib.hid (XB.out.trans xD)
  clear xD
  refine hK.out _ _ (K0.out _ XD.out) (fun hHeld => ?_)
  clear hK K
  try simp only [Act.put, List.setIfInBounds_toArray, List.set_cons_zero, List.set_cons_succ]
  refine wpAnyH_take (i := 36) (oi := { dst := some 97, op := Op.pick (Operand.tmp 93) (Operand.tmp 96) (Operand.const (Value.bool false)), type := 4, pos := "law.go:86", after := #[{ on := 32, ground := Ground.data }, { on := 35, ground := Ground.data }], guard := none }) (v := ?_) rfl (by kernel_rfl) (by kernel_rfl) (by kernel_rfl) (fun _ _ _ h => h) (Or.inl ⟨by rfl, ?_⟩) (by assumption) ?_
  case refine_2 => (intro w hSw; (try dsimp only at hSw); go_simp; (try with_reducible rfl))
  try simp only [Act.put, List.setIfInBounds_toArray, List.set_cons_zero, List.set_cons_succ]
  refine wpAnyH_take (i := 37) (oi := { dst := some 98, op := Op.move (Operand.tmp 97), type := 4, pos := "law.go:86", after := #[{ on := 36, ground := Ground.data }, { on := 35, ground := Ground.chain }], guard := none }) (v := ?_) rfl (by kernel_rfl) (by kernel_rfl) (by kernel_rfl) (fun _ _ _ h => h) (Or.inl ⟨by rfl, ?_⟩) (by assumption) ?_
  case refine_2 => (intro w hSw; (try dsimp only at hSw); go_simp; (try with_reducible rfl))
  try simp only [Act.put, List.setIfInBounds_toArray, List.set_cons_zero, List.set_cons_succ]
  refine wpAnyH_take (i := 38) (oi := { dst := some 99, op := Op.load 26 (Operand.tmp 3), type := 26, pos := "law.go:86", after := #[{ on := 37, ground := Ground.guard }], guard := some (37, true) }) (v := ?_) rfl (by kernel_rfl) (by kernel_rfl) (by kernel_rfl) (fun _ _ _ h => h) (Or.inl ⟨by rfl, ?_⟩) (by assumption) ?_
  case refine_2 => (intro w hSw; (try dsimp only at hSw); go_simp; (try with_reducible rfl))
  try simp only [Act.put, List.setIfInBounds_toArray, List.set_cons_zero, List.set_cons_succ]
  refine wpAnyH_take (i := 40) (oi := { dst := some 101, op := Op.fieldAddr 26 (Operand.tmp 3) 1, type := 0, pos := "law.go:86", after := #[{ on := 37, ground := Ground.guard }], guard := some (37, true) }) (v := ?_) rfl (by kernel_rfl) (by kernel_rfl) (by kernel_rfl) (fun _ _ _ h => h) (Or.inl ⟨by rfl, ?_⟩) (by assumption) ?_
  case refine_2 => (intro w hSw; (try dsimp only at hSw); go_simp; (try with_reducible rfl))
  try simp only [Act.put, List.setIfInBounds_toArray, List.set_cons_zero, List.set_cons_succ]
  refine wpAnyH_take (i := 41) (oi := { dst := some 102, op := Op.load 22 (Operand.tmp 101), type := 22, pos := "law.go:86", after := #[{ on := 40, ground := Ground.data }, { on := 37, ground := Ground.guard }], guard := some (37, true) }) (v := ?_) rfl (by kernel_rfl) (by kernel_rfl) (by kernel_rfl) (fun _ _ _ h => h) (Or.inl ⟨by rfl, ?_⟩) (by assumption) ?_
  case refine_2 => (intro w hSw; (try dsimp only at hSw); go_simp; (try with_reducible rfl))
  try simp only [Act.put, List.setIfInBounds_toArray, List.set_cons_zero, List.set_cons_succ]
  refine wpAnyH_take (i := 42) (oi := { dst := some 103, op := Op.call { callee := Callee.builtin Builtin.len, args := #[Operand.tmp 102], argTypes := #[22] }, type := 3, pos := "law.go:86", after := #[{ on := 41, ground := Ground.data }, { on := 37, ground := Ground.guard }], guard := some (37, true) }) (v := ?_) rfl (by kernel_rfl) (by kernel_rfl) (by kernel_rfl) (fun _ _ _ h => h) (Or.inl ⟨by rfl, ?_⟩) (by assumption) ?_
  case refine_2 => (intro w hSw; (try dsimp only at hSw); go_simp; (try with_reducible rfl))
  try simp only [Act.put, List.setIfInBounds_toArray, List.set_cons_zero, List.set_cons_succ]
  refine wpAnyH_take (i := 43) (oi := { dst := some 104, op := Op.binOp BinOp.add 3 (Operand.const (Value.int IntKind.i64 8)) (Operand.tmp 103) 3, type := 3, pos := "law.go:86", after := #[{ on := 42, ground := Ground.data }, { on := 37, ground := Ground.guard }], guard := some (37, true) }) (v := ?_) rfl (by kernel_rfl) (by kernel_rfl) (by kernel_rfl) (fun _ _ _ h => h) (Or.inl ⟨by rfl, ?_⟩) (by assumption) ?_
  case refine_2 => (intro w hSw; (try dsimp only at hSw); go_simp; (try with_reducible rfl))
  try simp only [Act.put, List.setIfInBounds_toArray, List.set_cons_zero, List.set_cons_succ]
  refine wpAnyH_ready (rs := [39]) (by kernel_rfl) (by simp) ?_
  refine AllReadyH.cons (o := { dst := some 100, op := Op.call { callee := Callee.value (Operand.func 15), args := #[Operand.tmp 99], argTypes := #[26] }, type := 3, pos := "law.go:86", after := #[{ on := 38, ground := Ground.data }, { on := 37, ground := Ground.chain }, { on := 37, ground := Ground.guard }], guard := some (37, true) }) rfl (fun K hK => ?_) AllReadyH.nil
  go_simp
  go_at_call 15
  refine (cost_any k2 cs _ _ (HC.out.ext XD.out) HLC.out).mono ?_; rintro e wE ⟨rfl, xE⟩
  rw [HM.out]
  have XE := Lib.hid (XD.out.trans xE)
  clear xE
  refine hK.out _ _ (K0.out _ XE.out) (fun hHeld => ?_)
  clear hK K
  try simp only [Act.put, List.setIfInBounds_toArray, List.set_cons_zero, List.set_cons_succ]
  refine wpAnyH_take (i := 44) (oi := { dst := some 105, op := Op.binOp BinOp.eql 3 (Operand.tmp 100) (Operand.tmp 104) 3, type := 4, pos := "law.go:86", after := #[{ on := 39, ground := Ground.data }, { on := 43, ground := Ground.data }, { on := 37, ground := Ground.guard }], guard := some (37, true) }) (v := ?_) rfl (by kernel_rfl) (by kernel_rfl) (by kernel_rfl) (fun _ _ _ h => h) (Or.inl ⟨by rfl, ?_⟩) (by assumption) ?_
  case refine_2 => (intro w hSw; (try dsimp only at hSw); go_simp; (try with_reducible rfl))
  try simp only [Act.put, List.setIfInBounds_toArray, List.set_cons_zero, List.set_cons_succ]
  refine wpAnyH_take (i := 45) (oi := { dst := some 106, op := Op.pick (Operand.tmp 98) (Operand.tmp 105) (Operand.const (Value.bool false)), type := 4, pos := "law.go:86", after := #[{ on := 37, ground := Ground.data }, { on := 44, ground := Ground.data }], guard := none }) (v := ?_) rfl (by kernel_rfl) (by kernel_rfl) (by kernel_rfl) (fun _ _ _ h => h) (Or.inl ⟨by rfl, ?_⟩) (by assumption) ?_
  case refine_2 => (intro w hSw; (try dsimp only at hSw); go_simp; (try with_reducible rfl))
  try simp only [Act.put, List.setIfInBounds_toArray, List.set_cons_zero, List.set_cons_succ]
  refine wpAnyH_take (i := 46) (oi := { dst := some 107, op := Op.move (Operand.tmp 106), type := 4, pos := "law.go:86", after := #[{ on := 45, ground := Ground.data }, { on := 39, ground := Ground.chain }], guard := none }) (v := ?_) rfl (by kernel_rfl) (by kernel_rfl) (by kernel_rfl) (fun _ _ _ h => h) (Or.inl ⟨by rfl, ?_⟩) (by assumption) ?_
  case refine_2 => (intro w hSw; (try dsimp only at hSw); go_simp; (try with_reducible rfl))
  try simp only [Act.put, List.setIfInBounds_toArray, List.set_cons_zero, List.set_cons_succ]
  refine wpAnyH_take (i := 47) (oi := { dst := some 108, op := Op.move (Operand.tmp 5), type := 22, pos := "law.go:86", after := #[{ on := 46, ground := Ground.guard }], guard := some (46, true) }) (v := ?_) rfl (by kernel_rfl) (by kernel_rfl) (by kernel_rfl) (fun _ _ _ h => h) (Or.inl ⟨by rfl, ?_⟩) (by assumption) ?_
  case refine_2 => (intro w hSw; (try dsimp only at hSw); go_simp; (try with_reducible rfl))
  try simp only [Act.put, List.setIfInBounds_toArray, List.set_cons_zero, List.set_cons_succ]
  refine wpAnyH_take (i := 48) (oi := { dst := some 109, op := Op.fieldAddr 24 (Operand.tmp 2) 2, type := 0, pos := "law.go:86", after := #[{ on := 46, ground := Ground.guard }], guard := some (46, true) }) (v := ?_) rfl (by kernel_rfl) (by kernel_rfl) (by kernel_rfl) (fun _ _ _ h => h) (Or.inl ⟨by rfl, ?_⟩) (by assumption) ?_
  case refine_2 => (intro w hSw; (try dsimp only at hSw); go_simp; (try with_reducible rfl))
  try simp only [Act.put, List.setIfInBounds_toArray, List.set_cons_zero, List.set_cons_succ]
  refine wpAnyH_take (i := 49) (oi := { dst := some 110, op := Op.load 22 (Operand.tmp 109), type := 22, pos := "law.go:86", after := #[{ on := 48, ground := Ground.data }, { on := 46, ground := Ground.guard }], guard := some (46, true) }) (v := ?_) rfl (by kernel_rfl) (by kernel_rfl) (by kernel_rfl) (fun _ _ _ h => h) (Or.inl ⟨by rfl, ?_⟩) (by assumption) ?_
  case refine_2 => (intro w hSw; (try dsimp only at hSw); go_simp; (try with_reducible rfl))
  try simp only [Act.put, List.setIfInBounds_toArray, List.set_cons_zero, List.set_cons_succ]
  refine wpAnyH_ready (rs := [50]) (by kernel_rfl) (by simp) ?_
  refine AllReadyH.cons (o := { dst := some 111, op := Op.call { callee := Callee.value (Operand.func 14), args := #[Operand.tmp 108, Operand.tmp 110], argTypes := #[22, 22] }, type := 4, pos := "law.go:86", after := #[{ on := 47, ground := Ground.data }, { on := 49, ground := Ground.data }, { on := 46, ground := Ground.chain }, { on := 46, ground := Ground.guard }], guard := some (46, true) }) rfl (fun K hK => ?_) AllReadyH.nil
  go_simp
  go_at_call 14
  have UL := bytes_same bs (.slice ia n ic) (.slice va n vc) _ (HU.out.ext XE.out) (HB.out.ext XE.out)
  refine UL.mono ?_; rintro e wF ⟨rfl, rfl⟩
  refine hK.out _ _ (K0.out _ XE.out) (fun hHeld => ?_)
  clear hK K
  try simp only [Act.put, List.setIfInBounds_toArray, List.set_cons_zero, List.set_cons_succ]
  refine wpAnyH_take (i := 51) (oi := { dst := some 112, op := Op.pick (Operand.tmp 107) (Operand.tmp 111) (Operand.const (Value.bool false)), type := 4, pos := "law.go:86", after := #[{ on := 46, ground := Ground.data }, { on := 50, ground := Ground.data }], guard := none }) (v := ?_) rfl (by kernel_rfl) (by kernel_rfl) (by kernel_rfl) (fun _ _ _ h => h) (Or.inl ⟨by rfl, ?_⟩) (by assumption) ?_
  case refine_2 => (intro w hSw; (try dsimp only at hSw); go_simp; (try with_reducible rfl))
  try simp only [Act.put, List.setIfInBounds_toArray, List.set_cons_zero, List.set_cons_succ]
  refine wpAnyH_take (i := 52) (oi := { dst := some 4, op := Op.assign (Operand.tmp 112), type := 4, pos := "law.go:86", after := #[{ on := 51, ground := Ground.data }, { on := 50, ground := Ground.chain }, { on := 0, ground := Ground.phase }, { on := 1, ground := Ground.phase }, { on := 2, ground := Ground.phase }, { on := 3, ground := Ground.phase }, { on := 4, ground := Ground.phase }, { on := 5, ground := Ground.phase }, { on := 6, ground := Ground.phase }, { on := 7, ground := Ground.phase }, { on := 8, ground := Ground.phase }, { on := 9, ground := Ground.phase }, { on := 10, ground := Ground.phase }, { on := 11, ground := Ground.phase }, { on := 12, ground := Ground.phase }, { on := 13, ground := Ground.phase }, { on := 14, ground := Ground.phase }, { on := 15, ground := Ground.phase }, { on := 16, ground := Ground.phase }, { on := 17, ground := Ground.phase }, { on := 18, ground := Ground.phase }, { on := 19, ground := Ground.phase }, { on := 20, ground := Ground.phase }, { on := 21, ground := Ground.phase }, { on := 22, ground := Ground.phase }, { on := 23, ground := Ground.phase }, { on := 24, ground := Ground.phase }, { on := 25, ground := Ground.phase }, { on := 26, ground := Ground.phase }, { on := 27, ground := Ground.phase }, { on := 28, ground := Ground.phase }, { on := 29, ground := Ground.phase }, { on := 30, ground := Ground.phase }, { on := 31, ground := Ground.phase }, { on := 32, ground := Ground.phase }, { on := 33, ground := Ground.phase }, { on := 34, ground := Ground.phase }, { on := 35, ground := Ground.phase }, { on := 36, ground := Ground.phase }, { on := 37, ground := Ground.phase }, { on := 38, ground := Ground.phase }, { on := 39, ground := Ground.phase }, { on := 40, ground := Ground.phase }, { on := 41, ground := Ground.phase }, { on := 42, ground := Ground.phase }, { on := 43, ground := Ground.phase }, { on := 44, ground := Ground.phase }, { on := 45, ground := Ground.phase }, { on := 46, ground := Ground.phase }, { on := 47, ground := Ground.phase }, { on := 48, ground := Ground.phase }, { on := 49, ground := Ground.phase }, { on := 50, ground := Ground.phase }, { on := 51, ground := Ground.phase }], guard := none }) (v := ?_) rfl (by kernel_rfl) (by kernel_rfl) (by kernel_rfl) (fun _ _ _ h => h) (Or.inl ⟨by rfl, ?_⟩) (by assumption) ?_
  case refine_2 => (intro w hSw; (try dsimp only at hSw); go_simp; (try with_reducible rfl))
  try simp only [Act.put, List.setIfInBounds_toArray, List.set_cons_zero, List.set_cons_succ]
  refine wpAnyH_done (by kernel_rfl) ?_ _
  go_wp2_with fail
  go_ret
  exact ⟨rfl, EE.out.trans XE.out⟩
end Go.Proofs.YtpofabebmeickaaDoor
