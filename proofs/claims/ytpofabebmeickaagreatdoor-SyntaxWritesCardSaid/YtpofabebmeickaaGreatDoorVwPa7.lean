/- (*rac.Encoder).End: its contract over this seat's translation. -/
import Derived.Test.YtpofabebmeickaaGreatDoorVwZc
namespace Go.Proofs.YtpofabebmeickaaGreatDoor
set_option linter.unusedVariables false
set_option linter.unusedSimpArgs false
open Go.RowKit Go.Extern.Stop Go.Stop Go.Extern

theorem trimE_zero (l : List Nat) : trimE (l ++ [0]) = trimE l := by
  induction l with
  | nil => rfl
  | cons x t ih =>
    show (if x = 0 ∧ trimE (t ++ [0]) = [] then [] else x :: trimE (t ++ [0])) = (if x = 0 ∧ trimE t = [] then [] else x :: trimE t)
    rw [ih]
theorem trimE_last (l : List Nat) {x : Nat} (h : x ≠ 0) : trimE (l ++ [x]) = l ++ [x] := by
  induction l with
  | nil => show (if x = 0 ∧ _ then [] else x :: trimE []) = _; rw [if_neg (fun e => h e.1)]; rfl
  | cons y t ih =>
    show (if y = 0 ∧ trimE (t ++ [x]) = [] then [] else y :: trimE (t ++ [x])) = _
    rw [ih, if_neg (by simp)]
    rfl
theorem trim_take (bs : List Nat) {k : Nat} (hk : k + 1 ≤ bs.length) : bs.take (k + 1) = bs.take k ++ [bs.getD k 0] := by
  rw [List.take_add_one, List.getD_eq_getElem?_getD, List.getElem?_eq_getElem (by omega)]
  rfl
theorem own_shrink {w : World} {B g n cap : Nat} {e : TypeId} {xs : List Value} (h : w.ownsRow B e 1 (.slice (some ⟨g, 0, none⟩) n cap) n xs) {k : Nat} (hk : k ≤ n) : w.ownsRow B e 1 (.slice (some ⟨g, 0, none⟩) k cap) k (xs.take k) := by
  obtain ⟨hl, h | ⟨g', cap', cur, e', hb, hg, h1, h2, hs, ht⟩⟩ := h
  · cases h.1
  · simp only [Value.slice.injEq, Option.some.injEq, Addr.mk.injEq, and_true, true_and] at e'
    obtain ⟨rfl, rfl⟩ := e'
    refine ⟨by rw [List.length_take]; omega, .inr ⟨g, cap, cur, rfl, hb, hg, by omega, h2, hs, ?_⟩⟩
    rw [← ht, List.take_take, Nat.mul_one, Nat.mul_one, Nat.min_eq_left hk]
set_option maxRecDepth 20000 in
set_option maxHeartbeats 4000000 in
theorem trimb_any (bs : List Nat) (g n cap : Nat) (w : World) (h : Bys w (.slice (some ⟨g, 0, none⟩) n cap) bs) : Calls Tryz.prog 101 #[.slice (some ⟨g, 0, none⟩) n cap, .int .u8 0] w fun e w' => e = .returned (.slice (some ⟨g, 0, none⟩) (trimE bs).length cap) ∧ trimE bs = bs.take (trimE bs).length ∧ (trimE bs).length ≤ n ∧ w = w' := by
  have hl := h.2.2
  have hcp := h.caps
  have hn := h.len
  rw [← hn] at hl
  have HB := Lib.hid h
  have HN := Lib.hid hn
  have HT0 : Hid (trimE bs = trimE (bs.take n)) := by show _ = _; rw [List.take_of_length_le (by omega)]
  clear h hn
  go_enter Tryz.func101, Tryz.ntmps101
  go_wp2
  go_loop [0] (fun u => ∃ k : Nat, k ≤ n ∧ u = .slice (some ⟨g, 0, none⟩) k cap ∧ Hid (trimE bs = trimE (bs.take k))) (fun u => match u with | .slice _ k _ => k | _ => 0)
  case atStart => exact ⟨n, Nat.le_refl _, rfl, HT0.out⟩
  case round =>
    clear HT0
    obtain ⟨k, hk, rfl, HT⟩ := hrel
    by_cases hk0 : k = 0
    · have x1 : ¬ (0 : Int) < (k : Int) := by omega
      have HR : Hid (trimE bs = []) := by show _ = _; rw [HT.out, hk0]; rfl
      have HK := Lib.hid hk0
      clear hk0
      go_wp2
      go_ret
      exact ⟨by rw [HR.out, HK.out]; rfl, by rw [HR.out]; rfl, by rw [HR.out]; exact Nat.zero_le _, rfl⟩
    · obtain ⟨j, hj⟩ : ∃ j, j + 1 = k := ⟨k - 1, by omega⟩
      have x1 : (0 : Int) < (k : Int) := by omega
      have x2 : (0 : Int) ≤ (j : Int) := by omega
      have x3 : (j : Int) < (k : Int) := by omega
      have x4 : (j : Int) ≤ (cap : Int) := by omega
      have s1 : IntKind.i64.wrap ((k : Int) - 1) = (j : Int) := by rw [IntKind.wrap_i64]; omega
      obtain ⟨x, hx⟩ : ∃ x, bs.getD j 0 = x := ⟨_, rfl⟩
      have cx := HB.out.at (nget_of_lt (bs := bs) (j := j) (by rw [← HN.out]; omega))
      rw [Nat.zero_add, hx] at cx
      have htk := trim_take bs (k := j) (by rw [← HN.out]; omega)
      rw [hj, hx] at htk
      by_cases hx0 : x = 0
      · have t1 : ((x : Int) == 0) = true := by rw [beq_iff_eq]; omega
        have HT2 : Hid (trimE bs = trimE (bs.take j)) := by show _ = _; rw [HT.out, htk, hx0, trimE_zero]
        have hjn : j ≤ n := by omega
        have HJ := Lib.hid hj
        clear hx hx0 htk hk0 hj
        go_wp2
        go_roundw
        case rel => exact ⟨j, hjn, rfl, HT2.out⟩
        case measure => show j < k; have := HJ.out; omega
      · have t1 : ((x : Int) == 0) = false := by rw [beq_eq_false_iff_ne]; omega
        have HR : Hid (trimE bs = bs.take k) := by show _ = _; rw [HT.out, htk, trimE_last _ hx0]
        have HL : Hid ((trimE bs).length = k) := by show _ = _; rw [HR.out, List.length_take, ← HN.out]; omega
        clear hx hx0 htk hk0 hj
        go_wp2
        go_ret
        exact ⟨by rw [HL.out]; rfl, by rw [HL.out]; exact HR.out, by rw [HL.out]; exact hk, rfl⟩
def zS : ByteArray := ⟨#[0]⟩
set_option maxRecDepth 20000 in
theorem trim_any (bs : List Nat) (g n cap : Nat) (w : World) (h : Bys w (.slice (some ⟨g, 0, none⟩) n cap) bs) (hn0 : 0 < n) : Calls Tryz.prog 80 #[.slice (some ⟨g, 0, none⟩) n cap, .string zS] w fun e w' => e = .returned (.slice (some ⟨g, 0, none⟩) (trimE bs).length cap) ∧ trimE bs = bs.take (trimE bs).length ∧ (trimE bs).length ≤ n ∧ w = w' := by
  have UT := Lib.hid (trimb_any bs g n cap w h)
  have t1 : ((n : Int) == 0) = false := by rw [beq_eq_false_iff_ne]; omega
  have q1 : zS.toList.isEmpty = false := by decide +kernel
  have q2 : zS.size = 1 := rfl
  have q3 : ∀ hh : 0 < zS.size, (zS[0]'hh).toNat = 0 := fun _ => rfl
  clear h
  go_enter Tryz.func80, Tryz.ntmps80
  go_wp2_with fail
  refine (UT.out).mono ?_; rintro e w1 ⟨rfl, h1, h2, rfl⟩
  have H1 := Lib.hid h1
  have H2 := Lib.hid h2
  clear h1 h2
  go_wp2
  go_ret
  exact ⟨rfl, H1.out, H2.out, rfl⟩
theorem own_grw {w w' : World} {base n : Nat} {v : Value} {xs : List Value} (h : w.ownsRow base 5 1 v n xs) (g : w.grownBy w' v.ownBlock) {u : World} (hu : Ext u w) (hb : u.heap.size ≤ base) : Ext u w' :=
  Below.grown hu g hu.size (fun k hk => by have := (h.lt k hk).1; omega)
theorem step_push4 {ops : Array Oper} {o : Oper} {a : Act} {K : Act → World → Prop} {Q : Exit → Act → World → Prop} {X : Prop} {W : World} {base : Nat} (hgd : o.guard = none) (s y : Operand) (t : TypeId)
    (ho : o.op = .call { callee := .builtin .append, args := #[s, y], argTypes := #[t, t] }) (ht : Tryz.prog.underlying t = some (.slice 5))
    (v : Value) (n : Nat) (xs : List Value) (p q r z : Int) (hs : a.eval s = v) (hown : W.ownsRow base 5 1 v n xs) (hx : a.eval y = .slice (some ⟨W.heap.size, 0, none⟩) 4 4) (hb : base ≤ W.heap.size) (hn : n ≤ 1000000000)
    (h : ∀ g cap w', w'.ownsRow base 5 1 (.slice (some ⟨g, 0, none⟩) (n + 4) cap) (n + 4) (xs ++ [.int .u8 p, .int .u8 q, .int .u8 r, .int .u8 z]) → W.grownBy w' v.ownBlock → K (a.put o.dst (.slice (some ⟨g, 0, none⟩) (n + 4) cap)) w') :
    if Region.wanted o (yielded ops a.tmps) = true then Oper.wp Tryz.prog o a ((W.alloc (.cells #[.int .u8 p, .int .u8 q, .int .u8 r, .int .u8 z] 5)).drew) K Q else X := by
  obtain ⟨i0, hi, hz0, hz1, hz2⟩ := info_parts infoU8
  have hown' : ((W.alloc (.cells #[.int .u8 p, .int .u8 q, .int .u8 r, .int .u8 z] 5)).drew).ownsRow base 5 1 v n xs := (hown.alloc _).drew
  refine step_append_lies _ hgd s y t ho base 5 i0 (.int .u8 0) 1 1 ht hi hz0 hz1 hz2 rfl (by decide) v n xs hs hown' ⟨W.heap.size, 0, none⟩ 4 4 [.int .u8 p, .int .u8 q, .int .u8 r, .int .u8 z] hx rfl (World.news_of_block (cs := #[.int .u8 p, .int .u8 q, .int .u8 r, .int .u8 z]) (t := 5) (fr := (0, 0)) (heap_alloc_new W _)) ?_ (by decide) (by unfold maxLen; omega) (by omega) (by simp; omega) (W.heap.size + 1) (by simp) ?_
  · intro u hu
    simp only [List.mem_cons, List.not_mem_nil, or_false] at hu
    rcases hu with rfl | rfl | rfl | rfl <;> rfl
  intro g cap w' h1 h2 h3 _
  refine h g cap w' h1 ⟨h2.os, h2.tape, h2.output, Nat.le_trans (by simp) h2.size, fun k hk hne => ?_⟩
  exact (h2.block k (by simp; omega) hne).trans (Below.heap_alloc W _ k hk)
def EePost (w : World) (s : Ec) (e : Ending) (w' : World) : Prop := ∃ g k cap, e = .returned (.slice (some ⟨g, 0, none⟩) k cap) ∧ (trimE (allE s)).length = k ∧ w'.ownsRow w.heap.size 5 1 (.slice (some ⟨g, 0, none⟩) k cap) k (byC (trimE (allE s))) ∧ Ext w w'
theorem ee_end {w w8 : World} {g M cap : Nat} {s : Ec} (h : w8.ownsRow w.heap.size 5 1 (.slice (some ⟨g, 0, none⟩) M cap) M (byC (allE s))) (hx : Ext w w8) (h1 : trimE (allE s) = (allE s).take (trimE (allE s)).length) (h2 : (trimE (allE s)).length ≤ M) : EePost w s (.returned (.slice (some ⟨g, 0, none⟩) (trimE (allE s)).length cap)) w8 := by
  refine ⟨g, _, cap, rfl, rfl, ?_, hx⟩
  have := own_shrink h h2
  have e : (byC (allE s)).take (trimE (allE s)).length = byC (trimE (allE s)) := by
    unfold byC
    rw [← List.map_take, ← h1]
  rw [e] at this
  exact this
theorem ee_all {w w8 : World} {v : Value} {n : Nat} {E L : List Nat} {p q r z : Nat} (h : w8.ownsRow w.heap.size 5 1 v (n + 4) (byC E ++ [.int .u8 (p : Int), .int .u8 (q : Int), .int .u8 (r : Int), .int .u8 (z : Int)])) (hL : L = E ++ [p, q, r, z]) : w8.ownsRow w.heap.size 5 1 v (n + 4) (byC L) := by
  have e : byC L = byC E ++ [.int .u8 (p : Int), .int .u8 (q : Int), .int .u8 (r : Int), .int .u8 (z : Int)] := by rw [hL]; simp [byC]
  rw [e]
  exact h
theorem Bys_n {w : World} {base n : Nat} {v : Value} {bs : List Nat} (h : w.ownsRow base 5 1 v n (byC bs)) (hn : bs.length = n) (hb : ∀ x ∈ bs, x < 256) (hl : n ≤ 10000000) : Bys w v bs := by
  subst hn
  exact Bys.of_owns h hb (by omega)
theorem allE_lt {N : Nat} {s : Ec} (hk : okE N s) : ∀ x ∈ allE s, x < 256 := by
  obtain ⟨k1, k2, k3, k4, k5⟩ := hk
  intro x hx
  unfold allE at hx
  rcases List.mem_append.1 hx with hx | hx
  · rcases List.mem_append.1 hx with hx | hx
    · rcases List.mem_append.1 hx with hx | hx
      · exact k5 x hx
      · exact hdE_lt s x hx
    · rw [List.eq_of_mem_replicate hx]; decide
  · simp only [List.mem_cons, List.not_mem_nil, or_false] at hx
    rcases hx with rfl | rfl | rfl | rfl <;> omega
set_option maxRecDepth 20000 in
set_option maxHeartbeats 4000000 in
theorem enend_any (b : Nat) (B : Nat → Prop) (N : Nat) (s : Ec) (w : World) (h : EcAt w b B s) (hk : okE N s) (hN : N ≤ 4000000) : Calls Tryz.prog 51 #[.pointer (some ⟨b, 0, none⟩)] w (EePost w s) := by
  obtain ⟨v, hB, hR⟩ := h
  obtain ⟨a, c, rfl⟩ := hR.form
  have HALT := Lib.hid (allE_lt hk)
  have HAL0 : Hid (allE s = s.done ++ hdE s ++ List.replicate s.run 255 ++ [s.low / 16777216 % 256, s.low / 65536 % 256, s.low / 256 % 256, s.low % 256]) := rfl
  have hd0 := hk.2.1.1
  have hlow := hk.2.2.1
  have hrun := hk.1
  obtain ⟨r, hr⟩ : ∃ r, s.run = r := ⟨_, rfl⟩
  obtain ⟨l, hl⟩ : ∃ l, s.low = l := ⟨_, rfl⟩
  obtain ⟨D, hD⟩ : ∃ D, s.done = D := ⟨_, rfl⟩
  obtain ⟨hd, hhd⟩ : ∃ hd, s.held = hd := ⟨_, rfl⟩
  have HHE : Hid (hdE s = if 0 ≤ hd then [(hd % 256).toNat] else []) := by show _ = _; unfold hdE; rw [hhd]
  have hDlt : ∀ x ∈ D, x < 256 := by rw [← hD]; exact hk.2.2.2.2
  rw [hr, hl, hD] at HAL0
  rw [hr, hl, hhd] at hB
  rw [hD] at hR hrun hB
  rw [hr] at hrun
  rw [hhd] at hd0
  rw [hl] at hlow
  have UC := Lib.hid (fun w' (x : Ext w w') => clb_any D (.slice a D.length c) w' ((Bys.of_owns hR.1 hDlt (by omega)).ext x))
  obtain ⟨⟨c0, c1, c2, c3, c4⟩, f0, f1, f2, f3, f4⟩ := hB
  have HC1 := Lib.hid c1
  have HC2 := Lib.hid c2
  have HC3 := Lib.hid c3
  clear hr hl hD hhd hR hk c4 f0 f1 f2 f3 f4 c1 c2 c3
  go_enter Tryz.func51, Tryz.ntmps51
  go_wp2_with fail
  refine (UC.out _ (Ext.refl w)).mono ?_; rintro e w1 ⟨u1, rfl, ho1, hx1⟩
  obtain ⟨a1, k1, rfl⟩ : ∃ a c, u1 = Value.slice a D.length c := by
    rcases ho1.2 with ⟨h, h0⟩ | ⟨g, cap, cur, h, -⟩
    · exact ⟨none, 0, by rw [h, h0]⟩
    · exact ⟨_, _, h⟩
  have HO1 := Lib.hid ho1
  have HX1 := Lib.hid hx1
  have b1 := hx1.cell HC1.out
  have b2 := hx1.cell HC2.out
  have hB1 := hx1.size
  clear ho1 hx1
  by_cases h0 : 0 ≤ hd
  · obtain ⟨X, hX⟩ : ∃ X : Nat, (hd % 256).toNat = X := ⟨_, rfl⟩
    have e2 : IntKind.u8.wrap hd = (X : Int) := by rw [IntKind.wrap_u8]; omega
    have HAL : Hid (allE s = (D ++ [X]) ++ List.replicate r 255 ++ [l / 16777216 % 256, l / 65536 % 256, l / 256 % 256, l % 256]) := by show _ = _; rw [HAL0.out, HHE.out, if_pos h0, hX]
    clear hX
    go_wp2_with (at_builtin; refine push_u8 rfl _ _ 53 rfl Tryz.underlying53 _ D.length _ (X : Int) rfl HO1.out rfl hB1 (by omega) ?_; intro g2 cp2 w2 h1 h2; have HO2a := Lib.hid h1; have HX2 := Lib.hid (own_grw HO1.out h2 HX1.out (Nat.le_refl _)); have b3 := HX2.out.cell HC2.out; clear h1 h2)
    obtain ⟨E0, hE0⟩ : ∃ E0, D ++ [X] = E0 := ⟨_, rfl⟩
    have hE0l : E0.length ≤ 4500000 := by rw [← hE0]; simp; omega
    have HO2 : Hid (w2.ownsRow w.heap.size 5 1 (.slice (some ⟨g2, 0, none⟩) (D.length + 1) cp2) E0.length (byC E0)) := by
      have := HO2a.out
      rw [← hE0]
      simp [byC] at this ⊢
      exact this
    rw [hE0] at HAL
    clear hE0 HO2a
    -- in hand: w2, u : the slice so far E0 (own, base w.heap.size), HX2 : Ext w w2; HAL : allE s = E0 ++ replicate r 255 ++ four
    go_wp2_with fail
    go_loopw [3, 26] (fun u iv wr => ∃ k : Nat, k ≤ r ∧ iv = .int .i64 (k : Int) ∧ Hid (wr.ownsRow w.heap.size 5 1 u (E0 ++ List.replicate k 255).length (byC (E0 ++ List.replicate k 255))) ∧ Hid (Ext w wr)) (fun _ iv _ => r - (intOf iv).toNat)
    case atStart => exact ⟨0, Nat.zero_le _, rfl, by show World.ownsRow _ _ _ _ _ _ _; rw [List.replicate_zero, List.append_nil]; exact HO2.out, HX2.out⟩
    case round =>
      clear HO2 HX2
      obtain ⟨k, hk, rfl, HO, HX⟩ := hrel
      obtain ⟨E, hE⟩ : ∃ E, E0 ++ List.replicate k 255 = E := ⟨_, rfl⟩
      have hEl : E.length = E0.length + k := by rw [← hE]; simp
      have HE : Hid (E0 ++ List.replicate (k + 1) 255 = E ++ [255]) := by show _ = _; rw [← hE, List.replicate_succ', List.append_assoc]
      rw [hE] at HO
      have HEE := Lib.hid hE
      have hEn : E.length ≤ 9000000 := by omega
      have hB := HX.out.size
      obtain ⟨n, hn⟩ : ∃ n, E.length = n := ⟨_, rfl⟩
      rw [hn] at HO hEn
      obtain ⟨ua, uc, rfl⟩ : ∃ a c, u3 = Value.slice a n c := by
        rcases HO.out.2 with ⟨h, h0⟩ | ⟨g, cap, cur, h, -⟩
        · exact ⟨none, 0, by rw [h, h0]⟩
        · exact ⟨_, _, h⟩
      have HNN := Lib.hid hn
      clear hE hEl hn
      by_cases hlt : k < r
      · go_wp2_with (at_builtin; refine push_u8 rfl _ _ 53 rfl Tryz.underlying53 _ n _ 255 rfl HO.out rfl hB (by omega) ?_; intro g8 cp8 w8 h1 h2; have HO8 := Lib.hid h1; have HX8 := Lib.hid (own_grw HO.out h2 HX.out (Nat.le_refl _)); clear h1 h2)
        go_roundw
        case rel =>
          refine ⟨k + 1, by omega, by go_num, ?_, HX8.out⟩
          show World.ownsRow _ _ _ _ _ _ _
          rw [HE.out, List.length_append, HNN.out]
          have : byC (E ++ [255]) = byC E ++ [.int .u8 255] := by simp [byC]
          rw [this]
          exact HO8.out
        case measure => simp [intOf]; omega
      · have hkr : k = r := by omega
        have HAE : Hid (allE s = E ++ [l / 16777216 % 256, l / 65536 % 256, l / 256 % 256, l % 256]) := by show _ = _; rw [HAL.out, ← HEE.out, hkr]
        have b4 := HX.out.cell HC3.out
        obtain ⟨T3, hT3⟩ : ∃ T, l / 16777216 = T := ⟨_, rfl⟩
        obtain ⟨T2, hT2⟩ : ∃ T, l / 65536 = T := ⟨_, rfl⟩
        obtain ⟨T1, hT1⟩ : ∃ T, l / 256 = T := ⟨_, rfl⟩
        obtain ⟨Y3, hY3⟩ : ∃ Y, T3 % 256 = Y := ⟨_, rfl⟩
        obtain ⟨Y2, hY2⟩ : ∃ Y, T2 % 256 = Y := ⟨_, rfl⟩
        obtain ⟨Y1, hY1⟩ : ∃ Y, T1 % 256 = Y := ⟨_, rfl⟩
        obtain ⟨Y0, hY0⟩ : ∃ Y, l % 256 = Y := ⟨_, rfl⟩
        have p3 : (l : Int) / 16777216 = (T3 : Int) := by omega
        have p2 : (l : Int) / 65536 = (T2 : Int) := by omega
        have p1 : (l : Int) / 256 = (T1 : Int) := by omega
        have q3 : IntKind.u8.wrap (T3 : Int) = (Y3 : Int) := by rw [IntKind.wrap_u8]; omega
        have q2 : IntKind.u8.wrap (T2 : Int) = (Y2 : Int) := by rw [IntKind.wrap_u8]; omega
        have q1 : IntKind.u8.wrap (T1 : Int) = (Y1 : Int) := by rw [IntKind.wrap_u8]; omega
        have q0 : IntKind.u8.wrap (l : Int) = (Y0 : Int) := by rw [IntKind.wrap_u8]; omega
        rw [hT3, hT2, hT1, hY3, hY2, hY1, hY0] at HAE
        have HLN : Hid ((allE s).length = n + 4) := by show _ = _; rw [HAE.out, List.length_append, HNN.out]; rfl
        have A1 : Ext wr (wr.alloc (.cells #[.int .u8 (Y3 : Int), .int .u8 (Y2 : Int), .int .u8 (Y1 : Int), .int .u8 (Y0 : Int)] 5)) := (Ext.refl wr).alloc _
        have b5 := A1.cell b4
        have x9 : ¬ (k : Int) < (r : Int) := by omega
        clear hT3 hT2 hT1 hY3 hY2 hY1 hY0 A1 hkr
        go_wp2_with fail
        go_region_law (refine step_push4 (by rfl) _ _ 53 (by rfl) Tryz.underlying53 _ n _ (Y3 : Int) (Y2 : Int) (Y1 : Int) (Y0 : Int) (by rfl) HO.out (by rfl) hB (by omega) ?_; intro g8 cp8 w8 h1 h2; have HO8 := Lib.hid (ee_all h1 HAE.out); have HX8 := Lib.hid (own_grw HO.out h2 HX.out (Nat.le_refl _)); have HY8 := Lib.hid (Bys_n HO8.out HLN.out HALT.out (by omega)); clear h1 h2)
        all_goals go_wp2_with fail
        all_goals (refine (trim_any (allE s) _ _ _ _ HY8.out (Nat.succ_pos _)).mono ?_)
        all_goals rintro e w9 ⟨rfl, h1, h2, rfl⟩
        all_goals have HEN := Lib.hid (ee_end HO8.out HX8.out h1 h2)
        all_goals clear h1 h2
        all_goals go_wp2
        all_goals go_ret
        all_goals exact HEN.out
  · have h0' : ¬ (0 : Int) ≤ hd := h0
    have HAL : Hid (allE s = D ++ List.replicate r 255 ++ [l / 16777216 % 256, l / 65536 % 256, l / 256 % 256, l % 256]) := by show _ = _; rw [HAL0.out, HHE.out, if_neg h0, List.append_nil]
    have HO2 := HO1
    have HX2 := HX1
    have hE0l : D.length ≤ 4500000 := by omega
    rename List Nat => E0
    -- in hand: w2, u : the slice so far E0 (own, base w.heap.size), HX2 : Ext w w2; HAL : allE s = E0 ++ replicate r 255 ++ four
    go_wp2_with fail
    go_loopw [3, 26] (fun u iv wr => ∃ k : Nat, k ≤ r ∧ iv = .int .i64 (k : Int) ∧ Hid (wr.ownsRow w.heap.size 5 1 u (E0 ++ List.replicate k 255).length (byC (E0 ++ List.replicate k 255))) ∧ Hid (Ext w wr)) (fun _ iv _ => r - (intOf iv).toNat)
    case atStart => exact ⟨0, Nat.zero_le _, rfl, by show World.ownsRow _ _ _ _ _ _ _; rw [List.replicate_zero, List.append_nil]; exact HO2.out, HX2.out⟩
    case round =>
      clear HO2 HX2
      obtain ⟨k, hk, rfl, HO, HX⟩ := hrel
      obtain ⟨E, hE⟩ : ∃ E, E0 ++ List.replicate k 255 = E := ⟨_, rfl⟩
      have hEl : E.length = E0.length + k := by rw [← hE]; simp
      have HE : Hid (E0 ++ List.replicate (k + 1) 255 = E ++ [255]) := by show _ = _; rw [← hE, List.replicate_succ', List.append_assoc]
      rw [hE] at HO
      have HEE := Lib.hid hE
      have hEn : E.length ≤ 9000000 := by omega
      have hB := HX.out.size
      obtain ⟨n, hn⟩ : ∃ n, E.length = n := ⟨_, rfl⟩
      rw [hn] at HO hEn
      obtain ⟨ua, uc, rfl⟩ : ∃ a c, u3 = Value.slice a n c := by
        rcases HO.out.2 with ⟨h, h0⟩ | ⟨g, cap, cur, h, -⟩
        · exact ⟨none, 0, by rw [h, h0]⟩
        · exact ⟨_, _, h⟩
      have HNN := Lib.hid hn
      clear hE hEl hn
      by_cases hlt : k < r
      · go_wp2_with (at_builtin; refine push_u8 rfl _ _ 53 rfl Tryz.underlying53 _ n _ 255 rfl HO.out rfl hB (by omega) ?_; intro g8 cp8 w8 h1 h2; have HO8 := Lib.hid h1; have HX8 := Lib.hid (own_grw HO.out h2 HX.out (Nat.le_refl _)); clear h1 h2)
        go_roundw
        case rel =>
          refine ⟨k + 1, by omega, by go_num, ?_, HX8.out⟩
          show World.ownsRow _ _ _ _ _ _ _
          rw [HE.out, List.length_append, HNN.out]
          have : byC (E ++ [255]) = byC E ++ [.int .u8 255] := by simp [byC]
          rw [this]
          exact HO8.out
        case measure => simp [intOf]; omega
      · have hkr : k = r := by omega
        have HAE : Hid (allE s = E ++ [l / 16777216 % 256, l / 65536 % 256, l / 256 % 256, l % 256]) := by show _ = _; rw [HAL.out, ← HEE.out, hkr]
        have b4 := HX.out.cell HC3.out
        obtain ⟨T3, hT3⟩ : ∃ T, l / 16777216 = T := ⟨_, rfl⟩
        obtain ⟨T2, hT2⟩ : ∃ T, l / 65536 = T := ⟨_, rfl⟩
        obtain ⟨T1, hT1⟩ : ∃ T, l / 256 = T := ⟨_, rfl⟩
        obtain ⟨Y3, hY3⟩ : ∃ Y, T3 % 256 = Y := ⟨_, rfl⟩
        obtain ⟨Y2, hY2⟩ : ∃ Y, T2 % 256 = Y := ⟨_, rfl⟩
        obtain ⟨Y1, hY1⟩ : ∃ Y, T1 % 256 = Y := ⟨_, rfl⟩
        obtain ⟨Y0, hY0⟩ : ∃ Y, l % 256 = Y := ⟨_, rfl⟩
        have p3 : (l : Int) / 16777216 = (T3 : Int) := by omega
        have p2 : (l : Int) / 65536 = (T2 : Int) := by omega
        have p1 : (l : Int) / 256 = (T1 : Int) := by omega
        have q3 : IntKind.u8.wrap (T3 : Int) = (Y3 : Int) := by rw [IntKind.wrap_u8]; omega
        have q2 : IntKind.u8.wrap (T2 : Int) = (Y2 : Int) := by rw [IntKind.wrap_u8]; omega
        have q1 : IntKind.u8.wrap (T1 : Int) = (Y1 : Int) := by rw [IntKind.wrap_u8]; omega
        have q0 : IntKind.u8.wrap (l : Int) = (Y0 : Int) := by rw [IntKind.wrap_u8]; omega
        rw [hT3, hT2, hT1, hY3, hY2, hY1, hY0] at HAE
        have HLN : Hid ((allE s).length = n + 4) := by show _ = _; rw [HAE.out, List.length_append, HNN.out]; rfl
        have A1 : Ext wr (wr.alloc (.cells #[.int .u8 (Y3 : Int), .int .u8 (Y2 : Int), .int .u8 (Y1 : Int), .int .u8 (Y0 : Int)] 5)) := (Ext.refl wr).alloc _
        have b5 := A1.cell b4
        have x9 : ¬ (k : Int) < (r : Int) := by omega
        clear hT3 hT2 hT1 hY3 hY2 hY1 hY0 A1 hkr
        go_wp2_with fail
        go_region_law (refine step_push4 (by rfl) _ _ 53 (by rfl) Tryz.underlying53 _ n _ (Y3 : Int) (Y2 : Int) (Y1 : Int) (Y0 : Int) (by rfl) HO.out (by rfl) hB (by omega) ?_; intro g8 cp8 w8 h1 h2; have HO8 := Lib.hid (ee_all h1 HAE.out); have HX8 := Lib.hid (own_grw HO.out h2 HX.out (Nat.le_refl _)); have HY8 := Lib.hid (Bys_n HO8.out HLN.out HALT.out (by omega)); clear h1 h2)
        all_goals go_wp2_with fail
        all_goals (refine (trim_any (allE s) _ _ _ _ HY8.out (Nat.succ_pos _)).mono ?_)
        all_goals rintro e w9 ⟨rfl, h1, h2, rfl⟩
        all_goals have HEN := Lib.hid (ee_end HO8.out HX8.out h1 h2)
        all_goals clear h1 h2
        all_goals go_wp2
        all_goals go_ret
        all_goals exact HEN.out
end Go.Proofs.YtpofabebmeickaaGreatDoor

