/- Contracts of this seat: Bx1, Bx2, Bx3, Bx4, Co5, Co6. -/
import Derived.Test.YtgohlhgapboijaaGreatDoorZo
import Derived.OwnWalk
import Derived.Test.YtgohlhgapboijaaGreatDoorZf
import Derived.BigRegion
/- kinref2.Writer: Put, Align: contracts over this seat's translation. -/
namespace Go.Proofs.YtgohlhgapboijaaGreatDoor
set_option linter.unusedVariables false
set_option linter.unusedSimpArgs false
open Go.RowKit Go.Extern.Stop Go.Stop Go.Extern

theorem infoBool : (Tryz.prog.info? 4).map (fun i => (i.zero, i.size, i.bytes)) = some (some (.bool false), 1, 1) := by kernel_rfl
/-- bits as cells -/
def boC (l : List Bool) : List Value := l.map Value.bool
theorem boC_length (l : List Bool) : (boC l).length = l.length := by simp [boC]
theorem boC_app (l : List Bool) (x : Bool) : boC (l ++ [x]) = boC l ++ [.bool x] := by simp [boC]
def boBlk (w : World) (k : Nat) : Prop := ∃ cs fr, w.heap[k]? = some (.cells cs 4 fr)
/-- what a document's writer at b leaves as it was: what lies below B, and what is no block of bits -/
def XKp (b B : Nat) (w w' : World) : Prop := (w'.os = w.os ∧ w'.tape = w.tape ∧ w'.output = w.output) ∧ w.heap.size ≤ w'.heap.size ∧ ∀ k, k < w.heap.size → k ≠ b → (k < B ∨ ¬ boBlk w k) → w'.heap[k]? = w.heap[k]?
theorem XKp.refl (b B : Nat) (w : World) : XKp b B w w := ⟨⟨rfl, rfl, rfl⟩, Nat.le_refl _, fun _ _ _ _ => rfl⟩
theorem XKp.trans {b B : Nat} {u v w : World} (h : XKp b B u v) (k : XKp b B v w) : XKp b B u w := by
  obtain ⟨⟨h1, h2, h3⟩, h4, h5⟩ := h
  obtain ⟨⟨k1, k2, k3⟩, k4, k5⟩ := k
  refine ⟨⟨k1.trans h1, k2.trans h2, k3.trans h3⟩, Nat.le_trans h4 k4, fun i hi hb hk => ?_⟩
  have e := h5 i hi hb hk
  refine (k5 i (Nat.lt_of_lt_of_le hi h4) hb ?_).trans e
  rcases hk with hk | hk
  · exact .inl hk
  · exact .inr (fun ⟨cs, fr, h⟩ => hk ⟨cs, fr, e ▸ h⟩)
theorem XKp.of_ext {b B : Nat} {w w' : World} (h : Ext w w') : XKp b B w w' := ⟨⟨Below.os h, Below.tape h, Below.output h⟩, h.size, fun _ hi _ _ => h.block hi⟩
theorem XKp.out {b B : Nat} {u v w : World} (h : Ext u v) (k : XKp b B v w) (hb : u.heap.size ≤ b) (hB : u.heap.size ≤ B) : Ext u w :=
  Below.trans (c := w) h ⟨k.1.1, k.1.2.1, k.1.2.2, k.2.1, fun i hi => k.2.2 i (Nat.lt_of_lt_of_le hi h.size) (by omega) (.inl (by omega))⟩
/-- a document's writer: its bits -/
def XwAt (w : World) (b B : Nat) (l : List Bool) : Prop := ∃ v, (w.cell? ⟨b, 0, none⟩ = some v ∧ w.frozen? ⟨b, 0, none⟩ = false) ∧ w.ownsRow B 4 1 v l.length (boC l) ∧ (b < B ∧ B ≤ w.heap.size) ∧ l.length ≤ 1000000
theorem XwAt.ext {w w' : World} {b B : Nat} {l : List Bool} (h : XwAt w b B l) (k : Ext w w') : XwAt w' b B l := by
  obtain ⟨v, ⟨h0, h1⟩, h2, h3, h4⟩ := h
  exact ⟨v, ⟨k.cell h0, (Below.frozen (p := ⟨b, 0, none⟩) k (Ext.lt (p := ⟨b, 0, none⟩) h0)).trans h1⟩, h2.kept (row := none) ⟨Below.os k, Below.tape k, Below.output k, k.size, fun i hi _ => k.block hi⟩ (by cases hv : v.ownBlock <;> simp), ⟨h3.1, Nat.le_trans h3.2 k.size⟩, h4⟩
theorem bo_slice {w : World} {base n : Nat} {v : Value} {xs : List Value} (h : w.ownsRow base 4 1 v n xs) : ∃ a cap, v = .slice a n cap := by
  obtain ⟨hl, h⟩ := h
  rcases h with ⟨h1, h2⟩ | ⟨g, cap, cur, e, -⟩
  · exact ⟨none, 0, by rw [h1, h2]⟩
  · exact ⟨some ⟨g, 0, none⟩, cap, e⟩
/-- one bit appended, and stored -/
theorem XwAt.push {w w' : World} {b B : Nat} {l : List Bool} {v v' : Value} {x : Bool} {n : Nat} (hn : l.length = n) (h0 : w.cell? ⟨b, 0, none⟩ = some v) (h1 : w.frozen? ⟨b, 0, none⟩ = false) (ho : w.ownsRow B 4 1 v n (boC l)) (h3 : b < B ∧ B ≤ w.heap.size) (h4 : n < 1000000)
    (k1 : w'.ownsRow B 4 1 v' (n + 1) (boC l ++ [.bool x])) (k2 : w.grownBy w' v.ownBlock) : XwAt (w'.setCell ⟨b, 0, none⟩ v') b B (l ++ [x]) ∧ XKp b B w (w'.setCell ⟨b, 0, none⟩ v') ∧ w'.frozen? ⟨b, 0, none⟩ = false ∧ w'.cell? ⟨b, 0, none⟩ = some v := by
  subst hn
  have hbw := Ext.lt (p := ⟨b, 0, none⟩) h0
  have hbv : some b ≠ v.ownBlock := fun e => by have := (ho.lt b e.symm).1; omega
  have eb := k2.block b hbw hbv
  have c' := (World.cell?_of_block (a := ⟨b, 0, none⟩) eb).trans h0
  have f' := (World.frozen?_of_block (a := ⟨b, 0, none⟩) eb).trans h1
  refine ⟨⟨v', ⟨World.cell?_setCell_same _ _ _ c', by simpa using f'⟩, ?_, ⟨h3.1, Nat.le_trans h3.2 (Nat.le_trans k2.size (by simp))⟩, by simp; omega⟩, ⟨⟨k2.os, k2.tape, k2.output⟩, Nat.le_trans k2.size (by simp), fun i hi hb hk => ?_⟩, f', c'⟩
  · have : (l ++ [x]).length = l.length + 1 := by simp
    rw [this, boC_app]
    exact ownsRow_setCell_below k1 (a := ⟨b, 0, none⟩) h3.1 v'
  · refine (Below.heap_setCell w' ⟨b, 0, none⟩ v' i hb).trans (k2.block i hi ?_)
    intro e
    rcases ho.2 with ⟨rfl, -⟩ | ⟨g, cap, cur, rfl, hg, hgg, -⟩
    · simp [Value.ownBlock] at e
    · simp only [Value.ownBlock, Option.some.injEq] at e
      subst e
      rcases hk with hk | hk
      · omega
      · exact hk ⟨_, _, hgg⟩
theorem push_bo {ops : Array Oper} {rest : List Oper} {o : Oper} {a : Act} {Q : Exit → Act → World → Prop} {Wd : World} {base : Nat} (hgd : o.guard = none) (s y : Operand) (t : TypeId)
    (ho : o.op = .call { callee := .builtin .append, args := #[s, y], argTypes := #[t, t] }) (ht : Tryz.prog.underlying t = some (.slice 4))
    (v : Value) (n : Nat) (xs : List Value) (x : Bool) (hs : a.eval s = v) (hown : Wd.ownsRow base 4 1 v n xs) (hx : a.eval y = .slice (some ⟨Wd.heap.size, 0, none⟩) 1 1) (hb : base ≤ Wd.heap.size) (hn : n ≤ 1000000)
    (h : ∀ v' w', w'.ownsRow base 4 1 v' (n + 1) (xs ++ [.bool x]) → Wd.grownBy w' v.ownBlock → wpList Tryz.prog ops Q rest (a.put o.dst v') w') :
    wpList Tryz.prog ops Q (o :: rest) a (Wd.alloc (.cells #[.bool x] 4)) := by
  obtain ⟨i0, hi, hz0, hz1, hz2⟩ := info_parts infoBool
  refine wpList_append_own _ hgd s y t ho base 4 i0 _ 1 1 ht hi hz0 hz1 hz2 rfl (by decide) v n xs hs (hown.alloc _) ⟨Wd.heap.size, 0, none⟩ 1 1 [.bool x] hx rfl (World.news_of_block (cs := #[.bool x]) (t := 4) (fr := (0, 0)) (heap_alloc_new Wd _)) ?_ (by unfold maxLen; omega) (by omega) (by simp; omega) ?_
  · intro x hx
    simp only [List.mem_cons, List.not_mem_nil, or_false] at hx
    rcases hx with rfl
    rfl
  intro v' w' h1 h2 _
  refine h v' w' h1 ⟨h2.os, h2.tape, h2.output, Nat.le_trans (by simp) h2.size, fun k hk hne => ?_⟩
  exact (h2.block k (by simp; omega) hne).trans (Below.heap_alloc Wd _ k hk)
end Go.Proofs.YtgohlhgapboijaaGreatDoor

/- kinref2.Writer: Align, Put: contracts over this seat's translation. -/
namespace Go.Proofs.YtgohlhgapboijaaGreatDoor
set_option linter.unusedVariables false
set_option linter.unusedSimpArgs false
open Go.RowKit Go.Extern.Stop Go.Stop Go.Extern

def XAPost (w : World) (b B : Nat) (l : List Bool) (e : Ending) (w' : World) : Prop := e = .returned (.tuple #[]) ∧ XwAt w' b B l ∧ XKp b B w w'
end Go.Proofs.YtgohlhgapboijaaGreatDoor

/- (*kinref2.Writer).Put: its contract over this seat's translation. -/
namespace Go.Proofs.YtgohlhgapboijaaGreatDoor
set_option linter.unusedVariables false
set_option linter.unusedSimpArgs false
open Go.RowKit Go.Extern.Stop Go.Stop Go.Extern

theorem xi_eq {a b : Int} (h : a = b) : Value.int .i64 a = .int .i64 b := by rw [h]
theorem ResAt.of_box {w : World} {R : Nat} {T : TypeId} (h : w.heap[R]? = some (.cells #[.int .i64 0, .slice none 0 0] T (0, 0))) : ResAt w R := by
  simp [ResAt, World.cell?, World.frozen?, h]
theorem XwAt.far {w w' : World} {b B R : Nat} {l : List Bool} {cs : Array Value} {T : TypeId} (h : XwAt w b B l) (hR : w.heap[R]? = some (.cells cs T (0, 0))) (hT : T ≠ 4) (k : Kp R w w') (hb : b ≠ R) : XwAt w' b B l := by
  obtain ⟨v, ⟨c0, f0⟩, ho, h3, h4⟩ := h
  refine ⟨v, ⟨k.cell c0 hb, (k.frozen (p := ⟨b, 0, none⟩) (Ext.lt (p := ⟨b, 0, none⟩) c0) hb).trans f0⟩, ho.kept k ?_, ⟨h3.1, Nat.le_trans h3.2 k.size⟩, h4⟩
  rcases ho.2 with ⟨rfl, -⟩ | ⟨g, cap, cur, rfl, -, hgg, -⟩
  · exact .inl rfl
  · right
    intro e
    simp only [Value.ownBlock, Option.some.injEq] at e
    subst e
    rw [hR] at hgg
    simp only [Option.some.injEq, Obj.cells.injEq] at hgg
    exact hT hgg.2.1
theorem XKp.box {w w' : World} {b B R : Nat} {cs : Array Value} {T : TypeId} {fr : Nat × Nat} (k : XKp b B w w') (h : w.heap[R]? = some (.cells cs T fr)) (hT : T ≠ 4) (hb : R ≠ b) : w'.heap[R]? = some (.cells cs T fr) :=
  (k.2.2 R (Array.getElem?_eq_some_iff.1 h).1 hb (.inr (fun ⟨cs', fr', e⟩ => by
    rw [h] at e
    simp only [Option.some.injEq, Obj.cells.injEq] at e
    exact hT e.2.1))).trans h
theorem XKp.fresh {b B : Nat} {u v : World} (h : XKp b B u v) {R : Nat} (hR : u.heap.size ≤ R) (o : Nat) (x : Value) : XKp b B u (v.setCell ⟨R, o, none⟩ x) := by
  obtain ⟨⟨h1, h2, h3⟩, h4, h5⟩ := h
  exact ⟨⟨h1, h2, h3⟩, Nat.le_trans h4 (by simp), fun i hi hn hk => (Below.heap_setCell v ⟨R, o, none⟩ x i (show i ≠ R by omega)).trans (h5 i hi hn hk)⟩
def XPPost (w : World) (b B : Nat) (l : List Bool) (f : Fall) (e : Ending) (w' : World) : Prop := ∃ c u, e = .returned (.agg #[.int .i64 c, u]) ∧ XwAt w' b B l ∧ XKp b B w w' ∧ RErrIs w' f c u
set_option maxHeartbeats 4000000 in
set_option maxRecDepth 20000 in
theorem xwput_yes (b B V N : Nat) (l : List Bool) (w : World) (h : XwAt w b B l) (hl : l.length ≤ 900000) (hV : V < 2 ^ N) (hN : N ≤ 32) :
    Calls Tryz.prog 26 #[.pointer (some ⟨b, 0, none⟩), .int .i64 (V : Int), .int .i64 (N : Int)] w (XPPost w b B (l ++ bsOf V N) none) := by
  have hMb : 2 ^ N ≤ 2 ^ 32 := Nat.pow_le_pow_right (by decide) hN
  have HX0 := Lib.hid h
  have hbw : b < w.heap.size := by obtain ⟨v, ⟨c0, -⟩, -⟩ := h; exact Ext.lt (p := ⟨b, 0, none⟩) c0
  obtain ⟨M, hM⟩ : ∃ M, 2 ^ N = M := ⟨_, rfl⟩
  have i9 : (2 : Int) ^ N = (M : Int) := by rw [← hM]; simp
  rw [hM] at hV hMb
  have j1 : IntKind.i64.wrap (1 * 2 ^ N) = (M : Int) := by rw [i9, IntKind.wrap_i64]; omega
  have j2 : IntKind.i64.wrap (M : Int) = (M : Int) := by rw [IntKind.wrap_i64]; omega
  have j3 : IntKind.u64.wrap (N : Int) = (N : Int) := by rw [IntKind.wrap_u64]; omega
  have j4 : ¬ (M : Int) ≤ (V : Int) := by omega
  have j5 : IntKind.i64.wrap ((N : Int) - 1) = (N : Int) - 1 := by rw [IntKind.wrap_i64]; omega
  have m9 : (0 : Int) ≤ (N : Int) ∧ (N : Int) ≤ 64 := by omega
  have HB0 : Hid (∀ w : World, (w.alloc (.cells #[.int .i64 0, .slice none 0 0] 34)).heap[w.heap.size]? = some (.cells #[.int .i64 0, .slice none 0 0] 34 (0, 0))) := fun w => heap_alloc_new w _
  clear h hM
  go_enter Tryz.func26, Tryz.ntmps26
  go_wp2_with fail
  go_loopw [7] (fun iv wr => ∃ k, k ≤ N ∧ iv = .int .i64 ((N : Int) - 1 - (k : Int)) ∧ Hid (XwAt wr b B (l ++ (bsOf V N).take k)) ∧ Hid (XKp b B w wr) ∧ Hid (wr.heap[w.heap.size]? = some (.cells #[.int .i64 0, .slice none 0 0] 34 (0, 0)))) (fun iv _ => (intOf iv + 1).toNat)
  case atStart => exact ⟨0, Nat.zero_le _, xi_eq (by omega), by show XwAt _ _ _ _; rw [List.take_zero, List.append_nil]; exact HX0.out.ext ((Ext.refl w).alloc _), XKp.of_ext ((Ext.refl w).alloc _), HB0.out w⟩
  case round =>
    clear HX0 HB0
    obtain ⟨k, hk, rfl, HX, HK, HG⟩ := hrel
    by_cases hlt : k < N
    · obtain ⟨v, ⟨c0, f0⟩, ho, hbB, hll⟩ := HX.out
      obtain ⟨a, cap, rfl⟩ := bo_slice ho
      obtain ⟨q, hn⟩ : ∃ q, (l ++ (bsOf V N).take k).length = q := ⟨_, rfl⟩
      have hq : l.length + k = q := by rw [← hn, List.length_append, List.length_take, bsOf_length]; omega
      have HO : Hid (wr.ownsRow B 4 1 (.slice a q cap) q (boC (l ++ (bsOf V N).take k))) := by show World.ownsRow _ _ _ _ _ _ _; rw [← hn]; exact ho
      have HC : Hid (wr.cell? ⟨b, 0, none⟩ = some (.slice a q cap) ∧ wr.frozen? ⟨b, 0, none⟩ = false) := ⟨by rw [← hn]; exact c0, f0⟩
      have HN := Lib.hid hn
      have hBs : B ≤ wr.heap.size := hbB.2
      have HBB := Lib.hid hbB
      rw [hn] at c0
      obtain ⟨I, hI⟩ : ∃ I : Nat, I = N - 1 - k := ⟨_, rfl⟩
      have e1 : (N : Int) - 1 - (k : Int) = (I : Int) := by omega
      rw [e1]
      have hn6 : q ≤ 1000000 := by omega
      have hbit := bsOf_get V N k hlt
      rw [← hI] at hbit
      have hTk : (bsOf V N).take (k + 1) = (bsOf V N).take k ++ [decide (V / 2 ^ I % 2 = 1)] := by rw [List.take_add_one, hbit]; rfl
      obtain ⟨x, hx⟩ : ∃ x, V / 2 ^ I = x := ⟨_, rfl⟩
      have hxV : x ≤ V := by rw [← hx]; exact Nat.div_le_self _ _
      rw [hx] at hTk
      have k1 : (V : Int) / 2 ^ I = (x : Int) := by rw [← hx]; simp
      have k2 : IntKind.u64.wrap (I : Int) = (I : Int) := by rw [IntKind.wrap_u64]; omega
      have k3 : (0 : Int) ≤ (I : Int) ∧ (I : Int) ≤ 64 := by omega
      have k4 : IntKind.i64.wrap ((I : Int) - 1) = (I : Int) - 1 := by rw [IntKind.wrap_i64]; omega
      have k5 : IntKind.i64.wrap (x : Int) = (x : Int) := by rw [IntKind.wrap_i64]; omega
      have HJ : Hid (k + 1 ≤ N ∧ q < 1000000) := ⟨by omega, by omega⟩
      have hIk : I + k + 1 = N := by omega
      clear ho hn hll hbB hbit hx hI hq
      by_cases hy : x % 2 = 1
      · have b1 : bits .and .i64 (x : Int) 1 = 1 := (and_mask x 1 (by omega) (by decide)).trans (by rw [show x % 2 ^ 1 = 1 from hy]; rfl)
        have HT : Hid ((bsOf V N).take (k + 1) = (bsOf V N).take k ++ [true]) := by show _ = _; rw [hTk, hy]; rfl
        clear hTk hy
        go_wp2_with (at_builtin; refine push_bo rfl _ _ 59 rfl Tryz.underlying59 _ q _ true rfl HO.out (by show Value.slice (some ⟨wr.heap.size, 0, none⟩) 1 1 = _; simp) hBs hn6 ?_; intro v8 w8 h1 h2; obtain ⟨a8, cp8, rfl⟩ := bo_slice h1; have HP := Lib.hid (XwAt.push HN.out HC.out.1 HC.out.2 HO.out HBB.out HJ.out.2 h1 h2); obtain ⟨-, -, f8, c8⟩ := HP.out; clear h1 h2)
        go_roundw
        case rel => exact ⟨k + 1, HJ.out.1, xi_eq (by omega), by show XwAt _ _ _ _; rw [HT.out, ← List.append_assoc]; exact HP.out.1, HK.out.trans HP.out.2.1, HP.out.2.1.box HG.out (by decide) (by omega)⟩
        case measure => simp only [intOf]; omega
      · have hy0 : x % 2 = 0 := by omega
        have b1 : bits .and .i64 (x : Int) 1 = 0 := (and_mask x 1 (by omega) (by decide)).trans (by rw [show x % 2 ^ 1 = 0 from hy0]; rfl)
        have HT : Hid ((bsOf V N).take (k + 1) = (bsOf V N).take k ++ [false]) := by show _ = _; rw [hTk, hy0]; rfl
        clear hTk hy hy0
        go_wp2_with (at_builtin; refine push_bo rfl _ _ 59 rfl Tryz.underlying59 _ q _ false rfl HO.out (by show Value.slice (some ⟨wr.heap.size, 0, none⟩) 1 1 = _; simp) hBs hn6 ?_; intro v8 w8 h1 h2; obtain ⟨a8, cp8, rfl⟩ := bo_slice h1; have HP := Lib.hid (XwAt.push HN.out HC.out.1 HC.out.2 HO.out HBB.out HJ.out.2 h1 h2); obtain ⟨-, -, f8, c8⟩ := HP.out; clear h1 h2)
        go_roundw
        case rel => exact ⟨k + 1, HJ.out.1, xi_eq (by omega), by show XwAt _ _ _ _; rw [HT.out, ← List.append_assoc]; exact HP.out.1, HK.out.trans HP.out.2.1, HP.out.2.1.box HG.out (by decide) (by omega)⟩
        case measure => simp only [intOf]; omega
    · obtain rfl : k = N := by omega
      have e1 : (k : Int) - 1 - (k : Int) = -1 := by omega
      rw [e1]
      have HX9 : Hid (XwAt wr b B (l ++ bsOf V k)) := by
        have := HX.out
        rw [List.take_of_length_le (by rw [bsOf_length]; exact Nat.le_refl _)] at this
        exact this
      obtain ⟨g0, g1, g2, g3⟩ := ResAt.of_box HG.out
      clear HX e1
      go_wp2
      obtain ⟨e0, e1⟩ := res_cells g0 g1 (c := 0) (.slice none 0 0)
      exact bodyPost_ret (v := .agg #[.int .i64 0, .slice none 0 0]) (by simp [results, Tryz.results26, go_sem, e0, e1]) rfl ⟨0, .slice none 0 0, rfl, HX9.out.far HG.out (by decide) (((Kp.refl w.heap.size wr).set 0 _).set 1 _) (by omega), (HK.out.fresh (Nat.le_refl _) 0 _).fresh (Nat.le_refl _) 1 _, rfl, rfl⟩
set_option maxHeartbeats 4000000 in
set_option maxRecDepth 20000 in
theorem xwput_any (b B : Nat) (v n : Int) (l : List Bool) (w : World) (h : XwAt w b B l) (hl : l.length ≤ 900000) :
    Calls Tryz.prog 26 #[.pointer (some ⟨b, 0, none⟩), .int .i64 v, .int .i64 n] w (XPPost w b B (wpL l v n) (wpF v n)) := by
  by_cases h1 : n < 0
  · have hno : ¬ putOk v n := fun ⟨k, _⟩ => by omega
    have HF : Hid (wpF v n = range) := by show _ = _; unfold wpF; rw [if_neg hno]
    have HL : Hid (wpL l v n = l) := by show _ = _; unfold wpL; rw [if_neg hno]
    clear hno
    go_enter Tryz.func26, Tryz.ntmps26
    go_wp2_with fail
    refine (fail_any 3 _).mono ?_; rintro e w1 ⟨rfl, hx1⟩
    have R1 := (ResAt.new w).ext hx1
    obtain ⟨g0, g1, g2, g3⟩ := R1
    have E1 := ((Ext.refl w).alloc (.cells #[.int .i64 0, .slice none 0 0] 34)).trans hx1
    have HE2 := Lib.hid ((E1.setCell (p := ⟨w.heap.size, 0, none⟩) (Nat.le_refl _) (.int .i64 3)).setCell (p := ⟨w.heap.size, 1, none⟩) (Nat.le_refl _) (.slice none 0 0))
    clear E1
    go_wp2
    obtain ⟨e0, e1⟩ := res_cells g0 g1 (c := 3) (.slice none 0 0)
    exact bodyPost_ret (v := .agg #[.int .i64 3, .slice none 0 0]) (by simp [results, Tryz.results26, go_sem, e0, e1]) rfl ⟨3, .slice none 0 0, rfl, by rw [HL.out]; exact h.ext HE2.out, XKp.of_ext HE2.out, by rw [HF.out]; exact RErrIs.code (by decide)⟩
  · by_cases h2 : 32 < n
    · have hno : ¬ putOk v n := fun ⟨k, _⟩ => by omega
      have HF : Hid (wpF v n = range) := by show _ = _; unfold wpF; rw [if_neg hno]
      have HL : Hid (wpL l v n = l) := by show _ = _; unfold wpL; rw [if_neg hno]
      clear hno
      go_enter Tryz.func26, Tryz.ntmps26
      go_wp2_with fail
      refine (fail_any 3 _).mono ?_; rintro e w1 ⟨rfl, hx1⟩
      have R1 := (ResAt.new w).ext hx1
      obtain ⟨g0, g1, g2, g3⟩ := R1
      have E1 := ((Ext.refl w).alloc (.cells #[.int .i64 0, .slice none 0 0] 34)).trans hx1
      have HE2 := Lib.hid ((E1.setCell (p := ⟨w.heap.size, 0, none⟩) (Nat.le_refl _) (.int .i64 3)).setCell (p := ⟨w.heap.size, 1, none⟩) (Nat.le_refl _) (.slice none 0 0))
      clear E1
      go_wp2
      obtain ⟨e0, e1⟩ := res_cells g0 g1 (c := 3) (.slice none 0 0)
      exact bodyPost_ret (v := .agg #[.int .i64 3, .slice none 0 0]) (by simp [results, Tryz.results26, go_sem, e0, e1]) rfl ⟨3, .slice none 0 0, rfl, by rw [HL.out]; exact h.ext HE2.out, XKp.of_ext HE2.out, by rw [HF.out]; exact RErrIs.code (by decide)⟩
    · by_cases h3 : v < 0
      · have hno : ¬ putOk v n := fun ⟨_, k⟩ => by omega
        have HF : Hid (wpF v n = range) := by show _ = _; unfold wpF; rw [if_neg hno]
        have HL : Hid (wpL l v n = l) := by show _ = _; unfold wpL; rw [if_neg hno]
        clear hno
        go_enter Tryz.func26, Tryz.ntmps26
        go_wp2_with fail
        refine (fail_any 3 _).mono ?_; rintro e w1 ⟨rfl, hx1⟩
        have R1 := (ResAt.new w).ext hx1
        obtain ⟨g0, g1, g2, g3⟩ := R1
        have E1 := ((Ext.refl w).alloc (.cells #[.int .i64 0, .slice none 0 0] 34)).trans hx1
        have HE2 := Lib.hid ((E1.setCell (p := ⟨w.heap.size, 0, none⟩) (Nat.le_refl _) (.int .i64 3)).setCell (p := ⟨w.heap.size, 1, none⟩) (Nat.le_refl _) (.slice none 0 0))
        clear E1
        go_wp2
        obtain ⟨e0, e1⟩ := res_cells g0 g1 (c := 3) (.slice none 0 0)
        exact bodyPost_ret (v := .agg #[.int .i64 3, .slice none 0 0]) (by simp [results, Tryz.results26, go_sem, e0, e1]) rfl ⟨3, .slice none 0 0, rfl, by rw [HL.out]; exact h.ext HE2.out, XKp.of_ext HE2.out, by rw [HF.out]; exact RErrIs.code (by decide)⟩
      · obtain ⟨N, rfl⟩ : ∃ N : Nat, n = (N : Int) := ⟨n.toNat, by omega⟩
        obtain ⟨V, rfl⟩ : ∃ V : Nat, v = (V : Int) := ⟨v.toNat, by omega⟩
        have ep : ((2 ^ N : Nat) : Int) = (2 : Int) ^ N := by simp
        by_cases h4 : V < 2 ^ N
        · have hok : putOk (V : Int) (N : Int) := ⟨by omega, by omega, by rw [Int.toNat_natCast, ← ep]; omega⟩
          have e1 : wpF (V : Int) (N : Int) = none := by unfold wpF; rw [if_pos hok]
          have e2 : wpL l (V : Int) (N : Int) = l ++ bsOf V N := by unfold wpL; rw [if_pos hok]; rfl
          rw [e1, e2]
          exact xwput_yes b B V N l w h hl h4 (by omega)
        · have hno : ¬ putOk (V : Int) (N : Int) := fun ⟨_, _, k⟩ => by rw [Int.toNat_natCast, ← ep] at k; omega
          have hMb : 2 ^ N ≤ 2 ^ 32 := Nat.pow_le_pow_right (by decide) (by omega)
          obtain ⟨M, hM⟩ : ∃ M, 2 ^ N = M := ⟨_, rfl⟩
          have i9 : (2 : Int) ^ N = (M : Int) := by rw [← hM]; simp
          rw [hM] at h4 hMb
          have j1 : IntKind.i64.wrap (1 * 2 ^ N) = (M : Int) := by rw [i9, IntKind.wrap_i64]; omega
          have j2 : IntKind.i64.wrap (M : Int) = (M : Int) := by rw [IntKind.wrap_i64]; omega
          have j3 : IntKind.u64.wrap (N : Int) = (N : Int) := by rw [IntKind.wrap_u64]; omega
          have j4 : (M : Int) ≤ (V : Int) := by omega
          have m9 : (0 : Int) ≤ (N : Int) ∧ (N : Int) ≤ 64 := by omega
          obtain ⟨n, hn⟩ : ∃ n : Int, n = (N : Int) := ⟨_, rfl⟩
          obtain ⟨v, hv⟩ : ∃ v : Int, v = (V : Int) := ⟨_, rfl⟩
          clear ep hM
          have HF : Hid (wpF (V : Int) (N : Int) = range) := by show _ = _; unfold wpF; rw [if_neg hno]
          have HL : Hid (wpL l (V : Int) (N : Int) = l) := by show _ = _; unfold wpL; rw [if_neg hno]
          clear hno hn hv
          go_enter Tryz.func26, Tryz.ntmps26
          go_wp2_with fail
          refine (fail_any 3 _).mono ?_; rintro e w1 ⟨rfl, hx1⟩
          have R1 := (ResAt.new w).ext hx1
          obtain ⟨g0, g1, g2, g3⟩ := R1
          have E1 := ((Ext.refl w).alloc (.cells #[.int .i64 0, .slice none 0 0] 34)).trans hx1
          have HE2 := Lib.hid ((E1.setCell (p := ⟨w.heap.size, 0, none⟩) (Nat.le_refl _) (.int .i64 3)).setCell (p := ⟨w.heap.size, 1, none⟩) (Nat.le_refl _) (.slice none 0 0))
          clear E1
          go_wp2
          obtain ⟨e0, e1⟩ := res_cells g0 g1 (c := 3) (.slice none 0 0)
          exact bodyPost_ret (v := .agg #[.int .i64 3, .slice none 0 0]) (by simp [results, Tryz.results26, go_sem, e0, e1]) rfl ⟨3, .slice none 0 0, rfl, by rw [HL.out]; exact h.ext HE2.out, XKp.of_ext HE2.out, by rw [HF.out]; exact RErrIs.code (by decide)⟩
end Go.Proofs.YtgohlhgapboijaaGreatDoor

/- (*kinref2.Writer).Bytes: its contract over this seat's translation. -/
namespace Go.Proofs.YtgohlhgapboijaaGreatDoor
set_option linter.unusedVariables false
set_option linter.unusedSimpArgs false
open Go.RowKit Go.Extern.Stop Go.Stop Go.Extern

/-- bytes that the call itself made -/
def BcAt (w : World) (g n : Nat) (f : Nat → Nat) : Prop := ∀ j, j < n → w.cell? ⟨g, j, none⟩ = some (.int .u8 (f j : Int)) ∧ w.frozen? ⟨g, j, none⟩ = false
theorem BcAt.of {w : World} {base n g cap : Nat} {xs : List Value} (h : w.ownsRow base 5 1 (.slice (some ⟨g, 0, none⟩) n cap) n xs) (hx : ∀ j, j < n → xs[j]? = some (.int .u8 0)) : BcAt w g n (fun _ => 0) := fun j hj => by
  obtain ⟨hl, h' | ⟨g', cap', cur, e', hb, hg, h1, h2, hs, ht⟩⟩ := h
  · cases h'.1
  · simp only [Value.slice.injEq, Option.some.injEq, Addr.mk.injEq, and_true, true_and] at e'
    obtain ⟨rfl, rfl⟩ := e'
    have := hx j hj
    rw [← ht, List.getElem?_take] at this
    refine ⟨?_, by simp [World.frozen?, hg]⟩
    split at this
    · simp [World.cell?, hg]
      simpa using this
    · cases this
theorem BcAt.set {w : World} {g n i : Nat} {f : Nat → Nat} {y : Nat} (h : BcAt w g n f) : BcAt (w.setCell ⟨g, i, none⟩ (.int .u8 (y : Int))) g n (fun j => if j = i then y else f j) := fun j hj => by
  obtain ⟨c, fz⟩ := h j hj
  refine ⟨?_, by simpa using fz⟩
  show (w.setCell ⟨g, i, none⟩ (.int .u8 (y : Int))).cell? ⟨g, j, none⟩ = some (.int .u8 ((if j = i then y else f j : Nat) : Int))
  by_cases hij : j = i
  · subst hij
    rw [if_pos rfl]
    exact World.cell?_setCell_same _ _ _ c
  · rw [if_neg hij]
    exact (cell_off_ne _ (Ne.symm hij)).trans c
theorem BcAt.congr {w : World} {g n : Nat} {f f' : Nat → Nat} (h : BcAt w g n f) (e : ∀ j, j < n → f j = f' j) : BcAt w g n f' := fun j hj => by
  rw [← e j hj]; exact h j hj
theorem BcAt.bys {w : World} {g n : Nat} {l : List Bool} (h : BcAt w g n (pkB l)) (hn : n = (l.length + 7) / 8) (hm : n ≤ 1000000) : Bys w (.slice (some ⟨g, 0, none⟩) n n) (pkL l) := by
  have hl : (pkL l).length = n := by rw [pkL_length, hn]
  refine ⟨⟨some ⟨g, 0, none⟩, n, by rw [hl], by rw [hl]; exact Nat.le_refl _, by unfold maxLen; omega, fun _ => ⟨g, 0, rfl⟩, fun g' off ha j u hu => ?_⟩, pkL_lt l, by omega⟩
  simp only [Option.some.injEq, Addr.mk.injEq, and_true] at ha
  obtain ⟨rfl, rfl⟩ := ha
  have hj : j < n := by have := (List.getElem?_eq_some_iff.1 hu).1; rw [List.length_map, hl] at this; exact this
  rw [List.getElem?_map, pkL_get (by omega)] at hu
  simp only [Option.map_some, Option.some.injEq] at hu
  subst hu
  rw [Nat.zero_add]
  exact (h j hj).1
theorem pkB_snoc0 (l : List Bool) (j : Nat) : pkB (l ++ [false]) j = pkB l j := nmF_congr fun i _ => bL_pad l 1 _
theorem pkB_snoc1 (l : List Bool) (j : Nat) : pkB (l ++ [true]) j = if j = l.length / 8 then pkB l (l.length / 8) + 2 ^ (7 - l.length % 8) else pkB l j := by
  by_cases h : j = l.length / 8
  · subst h
    rw [if_pos rfl]
    have := pk_put l 1 1 (by decide) (by omega)
    rw [show bsOf 1 1 = [true] by decide, Nat.one_mul, show 8 - l.length % 8 - 1 = 7 - l.length % 8 by omega] at this
    exact this
  · rw [if_neg h]
    by_cases h2 : j < l.length / 8
    · exact pk_old l [true] j (by omega)
    · rw [pkB_end (l := l) (by omega), pkB_end (by rw [List.length_append]; simp; omega)]
theorem or_bit (l : List Bool) : bits .or .u8 (pkB l (l.length / 8) : Int) ((2 ^ (7 - l.length % 8) : Nat) : Int) = ((pkB l (l.length / 8) + 2 ^ (7 - l.length % 8) : Nat) : Int) := by
  obtain ⟨q, hq⟩ := pk_free l
  have hb : pkB (l ++ [true]) (l.length / 8) < 256 := pkB_lt _ _
  rw [pkB_snoc1, if_pos rfl] at hb
  rw [hq] at hb ⊢
  exact or_byte q (2 ^ (7 - l.length % 8)) (8 - l.length % 8) (Nat.pow_lt_pow_right (by decide) (by omega)) hb
def XBPost (w : World) (bs : List Nat) (e : Ending) (w' : World) : Prop := ∃ g n, e = .returned (.slice (some ⟨g, 0, none⟩) n n) ∧ Bys w' (.slice (some ⟨g, 0, none⟩) n n) bs ∧ Ext w w'
theorem zeros_u8 (n : Nat) : ∀ j, j < n → (madeCells (Value.int .u8 0).cells (n * 1)).toList[j]? = some (.int .u8 0) := fun j hj => by
  simp [madeCells, Value.cells, hj, Nat.mod_one]
set_option maxHeartbeats 4000000 in
set_option maxRecDepth 20000 in
theorem xwbytes_any (b B : Nat) (l : List Bool) (w : World) (h : XwAt w b B l) : Calls Tryz.prog 28 #[.pointer (some ⟨b, 0, none⟩)] w (XBPost w (pkL l)) := by
  obtain ⟨i0, hi, hz0, hz1, hz2⟩ := info_parts infoU8
  have HX := Lib.hid h
  obtain ⟨v, ⟨c0, f0⟩, ho, hbB, hll⟩ := h
  obtain ⟨a, cap, rfl⟩ := bo_slice ho
  obtain ⟨m, hm⟩ : ∃ m, l.length = m := ⟨_, rfl⟩
  obtain ⟨n, hn⟩ : ∃ n, n = (m + 7) / 8 := ⟨_, rfl⟩
  rw [hm] at c0 hll
  have HM := Lib.hid hm
  have HN := Lib.hid hn
  have j1 : IntKind.i64.wrap ((m : Int) + 7) = (m : Int) + 7 := by rw [IntKind.wrap_i64]; omega
  have j2 : Int.tdiv ((m : Int) + 7) 8 = (n : Int) := by rw [Int.tdiv_eq_ediv_of_nonneg (by omega)]; omega
  have j3 : ((m : Int) + 7) / 8 = (n : Int) := by omega
  have hn6 : n ≤ 1000000 := by omega
  have HR : Hid (Row w (.slice a m cap) m (boC l)) := by show Row _ _ _ _; rw [← hm]; exact Row.of_owns ho
  have HC0 := Lib.hid c0
  clear ho hbB hm hn HX
  go_enter Tryz.func28, Tryz.ntmps28
  go_wp2_with (at_make; refine wpList_make_full _ rfl _ _ 26 rfl w.heap.size 5 i0 (.int .u8 0) 1 Tryz.underlying26 hi hz0 hz1 .i64 .i64 _ _ n rfl rfl rfl rfl (by rw [hz2]; omega) (by unfold maxLen; omega) (Nat.le_refl _) ?_; intro w2 hown hgrow)
  have hE : Ext w w2 := Below.grown (Ext.refl w) hgrow (Nat.le_refl _) (fun k hk => by cases hk)
  have HB2 := Lib.hid (BcAt.of hown (zeros_u8 n))
  have HE2 := Lib.hid hE
  clear hown hgrow hi hz0 hz1 hz2 hE c0 f0
  go_wp2_with fail
  go_loopw [4] (fun iv wr => ∃ i : Nat, i ≤ m ∧ iv = .int .i64 (i : Int) ∧ Hid (BcAt wr w.heap.size n (pkB (l.take i))) ∧ Hid (Ext w wr)) (fun iv _ => m - (intOf iv).toNat)
  case atStart => exact ⟨0, Nat.zero_le _, rfl, HB2.out.congr (fun j _ => by rw [List.take_zero]; exact (pkB_end (l := []) (by simp)).symm), HE2.out⟩
  case round =>
    clear HB2 HE2
    obtain ⟨i, him, rfl, HB, HE⟩ := hrel
    have c0 := HE.out.cell HC0.out
    by_cases hlt : i < m
    · obtain ⟨a', cap', e, h1, h2, h3, h4⟩ := HR.out
      simp only [Value.slice.injEq, true_and] at e
      obtain ⟨rfl, rfl⟩ := e
      obtain ⟨g, off, rfl⟩ := h3 (by omega)
      obtain ⟨x, hx⟩ : ∃ x, l[i]? = some x := ⟨_, List.getElem?_eq_getElem (by rw [HM.out]; exact hlt)⟩
      have cx := HE.out.cell (h4 g off rfl i (.bool x) (by unfold boC; rw [List.getElem?_map, hx]; rfl))
      have htk : l.take (i + 1) = l.take i ++ [x] := by rw [List.take_add_one, hx]; rfl
      have hlen : (l.take i).length = i := by rw [List.length_take, HM.out]; omega
      have x1 : (0 : Int) ≤ (i : Int) := by omega
      have x2 : (i : Int) < (m : Int) := by omega
      clear h3 h4 h1 h2 hx
      cases x with
      | false =>
        have HT := Lib.hid htk
        clear htk hlen
        go_wp2
        go_roundw
        case rel => exact ⟨i + 1, by omega, by go_num, HB.out.congr (fun j _ => by rw [HT.out, pkB_snoc0]), HE.out⟩
        case measure => simp [intOf]; omega
      | true =>
        obtain ⟨q, hq⟩ : ∃ q, i / 8 = q := ⟨_, rfl⟩
        obtain ⟨r, hr⟩ : ∃ r, i % 8 = r := ⟨_, rfl⟩
        have hqn : q < n := by have := HN.out; omega
        obtain ⟨cq, fq⟩ := HB.out q hqn
        have ho := or_bit (l.take i)
        have hs := fun j => pkB_snoc1 (l.take i) j
        rw [hlen, hq, hr] at ho
        rw [hlen, hq, hr] at hs
        have hC : pkB (l.take i) q < 256 := pkB_lt _ _
        obtain ⟨C, hCC⟩ : ∃ C, pkB (l.take i) q = C := ⟨_, rfl⟩
        obtain ⟨Y, hY⟩ : ∃ Y, 2 ^ (7 - r) = Y := ⟨_, rfl⟩
        have hYb : Y ≤ 128 := by rw [← hY]; exact Nat.le_trans (Nat.pow_le_pow_right (by decide) (show 7 - r ≤ 7 by omega)) (by decide)
        have hdiv : 128 / 2 ^ r = Y := by
          rw [← hY, show (128 : Nat) = 2 ^ 7 by decide]
          exact Nat.pow_div (by omega) (by decide)
        obtain ⟨C2, hC2⟩ : ∃ C2, C + Y = C2 := ⟨_, rfl⟩
        rw [hCC, hY, hC2] at ho
        rw [hCC] at cq
        have k1 : (128 : Int) / 2 ^ r = (Y : Int) := by rw [← hdiv]; simp
        have k2 : IntKind.u64.wrap (r : Int) = (r : Int) := by rw [IntKind.wrap_u64]; omega
        have k3 : (0 : Int) ≤ (r : Int) ∧ (r : Int) ≤ 64 := by omega
        have k4 : IntKind.u8.wrap (Y : Int) = (Y : Int) := by rw [IntKind.wrap_u8]; omega
        have i2 : Int.tmod (i : Int) 8 = (r : Int) := by rw [Int.tmod_eq_emod_of_nonneg (by omega)]; omega
        have i1 : (i : Int) % 8 = (r : Int) := by omega
        have i3 : Int.tdiv (i : Int) 8 = (q : Int) := by rw [Int.tdiv_eq_ediv_of_nonneg (by omega)]; omega
        have i4 : (i : Int) / 8 = (q : Int) := by omega
        have q1 : (0 : Int) ≤ (q : Int) := by omega
        have q2 : (q : Int) < (n : Int) := by omega
        have HS : Hid (∀ j, pkB (l.take (i + 1)) j = if j = q then C2 else pkB (l.take i) j) := fun j => by
          rw [htk, hs j, hCC, hY, hC2]
        clear htk hlen hq hr hs hC hCC hY hYb hdiv hC2
        go_wp2
        go_roundw
        case rel => exact ⟨i + 1, by omega, by go_num, (HB.out.set (i := q) (y := C2)).congr (fun j _ => (HS.out j).symm), HE.out.setCell (p := ⟨w.heap.size, q, none⟩) (Nat.le_refl _) _⟩
        case measure => simp [intOf]; omega
    · obtain rfl : i = m := by omega
      have hb := HB.out
      rw [List.take_of_length_le (by rw [HM.out]; exact Nat.le_refl _)] at hb
      have HY := Lib.hid (hb.bys (by rw [HM.out]; exact HN.out) hn6)
      clear hb HB
      go_wp2
      go_ret
      exact ⟨_, _, rfl, HY.out, HE.out⟩
end Go.Proofs.YtgohlhgapboijaaGreatDoor

/- kinref3.ue, GetUe, GetSe, GetRice: contracts over this seat's translation. -/
namespace Go.Proofs.YtgohlhgapboijaaGreatDoor
set_option linter.unusedVariables false
set_option linter.unusedSimpArgs false
open Go.RowKit Go.Extern.Stop Go.Stop Go.Extern

/-- a result of type kinref.Err that nothing was stored into -/
def RBox (w : World) (R : Nat) : Prop := w.heap[R]? = some (.cells #[.int .i64 0, .slice none 0 0] 34 (0, 0))
theorem RBox.lt {w : World} {R : Nat} (h : RBox w R) : R < w.heap.size := (Array.getElem?_eq_some_iff.1 h).1
theorem RBox.new (w : World) : RBox (w.alloc (.cells #[.int .i64 0, .slice none 0 0] 34)) w.heap.size := heap_alloc_new w _
theorem RBox.res {w : World} {R : Nat} (h : RBox w R) : ResAt w R := ResAt.of_box h
theorem RBox.ext {w w' : World} {R : Nat} (h : RBox w R) (k : Ext w w') : RBox w' R := (k.block h.lt).trans h
theorem RBox.kp {w w' : World} {b R : Nat} (h : RBox w R) (k : Kp b w w') (hb : R ≠ b) : RBox w' R := (k.block h.lt hb).trans h
theorem RErrIs.box {w : World} {f : Fall} {c : Int} {u : Value} {R : Nat} (h : RErrIs w f c u) (hb : RBox w R) (x v : Value) : RErrIs ((w.setCell ⟨R, 0, none⟩ x).setCell ⟨R, 1, none⟩ v) f c u := by
  cases f with
  | none => exact h
  | some a =>
    obtain ⟨p, k⟩ := a
    obtain ⟨h1, h2, a, cap, e, h3, h4, h5, h6⟩ := h
    refine ⟨h1, h2, a, cap, e, h3, h4, h5, fun g off ha j u hu => ?_⟩
    have hg : g ≠ R := by
      intro hg
      subst hg
      cases p with
      | nil => simp [stepCells] at hu
      | cons s p =>
        have := h6 g off ha 0 (.string s.1) rfl
        rw [Nat.add_zero] at this
        unfold RBox at hb
        simp [World.cell?, hb] at this
        rcases off with _ | _ | off
        · simp at this
        · simp at this
        · simp at this
    rw [World.cell?_setCell_other _ _ _ _ (by intro e; exact hg (congrArg Addr.block e).symm), World.cell?_setCell_other _ _ _ _ (by intro e; exact hg (congrArg Addr.block e).symm)]
    exact h6 g off ha j u hu
/-- the end of a reader's call: an error stored into its result -/
theorem rq_end {w wz : World} {b B0 q : Nat} {bs : List Nat} {f : Fall} {c : Int} {u : Value} (hb : RBox wz w.heap.size) (hq : RqAt wz b bs q B0) (hk : Kp b w wz) (he : RErrIs wz f c u) (hbw : b < w.heap.size) :
    Kp b w ((wz.setCell ⟨w.heap.size, 0, none⟩ (.int .i64 c)).setCell ⟨w.heap.size, 1, none⟩ u) ∧ RqAt ((wz.setCell ⟨w.heap.size, 0, none⟩ (.int .i64 c)).setCell ⟨w.heap.size, 1, none⟩ u) b bs q B0 ∧ RErrIs ((wz.setCell ⟨w.heap.size, 0, none⟩ (.int .i64 c)).setCell ⟨w.heap.size, 1, none⟩ u) f c u := by
  have h0 := hq.base
  exact ⟨(hk.fresh (Nat.le_refl _) 0 _).fresh (Nat.le_refl _) 1 _, (hq.fresh (R := w.heap.size) (by omega) (by omega) 0 _).fresh (R := w.heap.size) (by omega) (by omega) 1 _, he.box hb _ _⟩
theorem rqget_end (b p N B0 : Nat) (bs : List Nat) (w : World) (h : RqAt w b bs p B0) (hp : p ≤ 8 * bs.length) (hN : N ≤ 32) (he : 8 * bs.length < p + N) :
    Calls Tryz.prog 69 #[.pointer (some ⟨b, 0, none⟩), .int .i64 (N : Int)] w (RqPost w b B0 bs 0 p (some ([(bitsS, (p : Int))], 1))) := by
  obtain ⟨g1, g2, g3⟩ := rd_end he hp hN
  have U := rqget_any b p B0 (N : Int) bs w h hp
  rwa [g1, g2, g3] at U
theorem rqget_bit (b p x B0 : Nat) (bs : List Nat) (w : World) (h : RqAt w b bs p B0) (hp : p < 8 * bs.length) (hx : btN bs p = x) :
    Calls Tryz.prog 69 #[.pointer (some ⟨b, 0, none⟩), .int .i64 1] w (RqPost w b B0 bs (x : Int) (p + 1) none) := by
  have U := rqget_yes b p 1 B0 bs w h (by omega) (by omega)
  rw [nmN_one, hx] at U
  exact U
theorem RqAt.small {w : World} {b p B0 : Nat} {bs : List Nat} (h : RqAt w b bs p B0) : bs.length ≤ 140737488355328 := by obtain ⟨_, _, _, ⟨-, -, hl⟩, -⟩ := h; exact hl
set_option maxHeartbeats 8000000 in
set_option maxRecDepth 20000 in
theorem rgetri_any (b p B0 : Nat) (k most : Int) (bs : List Nat) (w : World) (h : RqAt w b bs p B0) (hp : p ≤ 8 * bs.length) :
    Calls Tryz.prog 70 #[.pointer (some ⟨b, 0, none⟩), .int .i64 k, .int .i64 most] w (RqPost w b B0 bs (rgG bs p k most).2.1 (rgG bs p k most).2.2 (rgG bs p k most).1) := by
  by_cases h3 : k < 0
  · have HG : Hid (rgG bs p k most = (range, 0, p)) := by show _ = _; unfold rgG; rw [if_neg (by omega)]
    have hbw : b < w.heap.size := h.lt
    have HQ := Lib.hid (h.ext ((Ext.refl w).alloc (.cells #[.int .i64 0, .slice none 0 0] 34)))
    have HB := Lib.hid (RBox.new w)
    have HK := Lib.hid (Kp.of_ext (b := b) ((Ext.refl w).alloc (.cells #[.int .i64 0, .slice none 0 0] 34)))
    clear h
    go_enter Tryz.func70, Tryz.ntmps70
    go_wp2_with fail
    refine (fail_any 3 _).mono ?_; rintro e w1 ⟨rfl, hx1⟩
    have HB1 := Lib.hid (HB.out.ext hx1)
    have HR := Lib.hid (rq_end (f := range) (c := 3) (u := .slice none 0 0) HB1.out (HQ.out.ext hx1) (HK.out.ext hx1) (RErrIs.code (by decide)) hbw)
    obtain ⟨g0, g1, g2, g3⟩ := HB1.out.res
    go_wp2
    obtain ⟨y0, y1⟩ := res_cells g0 g1 (c := 3) (.slice none 0 0)
    exact bodyPost_ret (v := .tuple #[.int .i64 0, .agg #[.int .i64 3, .slice none 0 0]]) (by simp [results, Tryz.results70, go_sem, y0, y1]) rfl ⟨3, .slice none 0 0, by rw [HG.out], HR.out.1, by rw [HG.out]; exact HR.out.2.1, by rw [HG.out]; exact HR.out.2.2⟩
  · by_cases h4 : 15 < k
    · have HG : Hid (rgG bs p k most = (range, 0, p)) := by show _ = _; unfold rgG; rw [if_neg (by omega)]
      have hbw : b < w.heap.size := h.lt
      have HQ := Lib.hid (h.ext ((Ext.refl w).alloc (.cells #[.int .i64 0, .slice none 0 0] 34)))
      have HB := Lib.hid (RBox.new w)
      have HK := Lib.hid (Kp.of_ext (b := b) ((Ext.refl w).alloc (.cells #[.int .i64 0, .slice none 0 0] 34)))
      clear h
      go_enter Tryz.func70, Tryz.ntmps70
      go_wp2_with fail
      refine (fail_any 3 _).mono ?_; rintro e w1 ⟨rfl, hx1⟩
      have HB1 := Lib.hid (HB.out.ext hx1)
      have HR := Lib.hid (rq_end (f := range) (c := 3) (u := .slice none 0 0) HB1.out (HQ.out.ext hx1) (HK.out.ext hx1) (RErrIs.code (by decide)) hbw)
      obtain ⟨g0, g1, g2, g3⟩ := HB1.out.res
      go_wp2
      obtain ⟨y0, y1⟩ := res_cells g0 g1 (c := 3) (.slice none 0 0)
      exact bodyPost_ret (v := .tuple #[.int .i64 0, .agg #[.int .i64 3, .slice none 0 0]]) (by simp [results, Tryz.results70, go_sem, y0, y1]) rfl ⟨3, .slice none 0 0, by rw [HG.out], HR.out.1, by rw [HG.out]; exact HR.out.2.1, by rw [HG.out]; exact HR.out.2.2⟩
    · obtain ⟨K, rfl⟩ : ∃ K : Nat, k = (K : Int) := ⟨k.toNat, by omega⟩
      have hG0 : rgG bs p (K : Int) most = riE bs K most (riQ bs 24 0 p) := by unfold rgG; rw [if_pos (by omega)]; rfl
      rw [hG0]
      obtain ⟨RQ, hRQ⟩ : ∃ RQ, riQ bs 24 0 p = RQ := ⟨_, rfl⟩
      rw [hRQ]
      obtain ⟨R, hR⟩ : ∃ R, riE bs K most RQ = R := ⟨_, rfl⟩
      rw [hR]
      have HR0 := Lib.hid hR
      have HRQ0 := Lib.hid hRQ
      obtain ⟨n, hn⟩ : ∃ n, n = 8 * bs.length := ⟨_, rfl⟩
      have HN := Lib.hid hn
      have hnb : n ≤ 1125899906842624 := by have := h.small; omega
      rw [← hn] at hp
      have hbw : b < w.heap.size := h.lt
      have hne : w.heap.size ≠ b := by omega
      have HA0 := Lib.hid (h.ext ((Ext.refl w).alloc (.cells #[.int .i64 0, .slice none 0 0] 34)))
      obtain ⟨M, hMM⟩ : ∃ M, 2 ^ K = M := ⟨_, rfl⟩
      have jp : (2 : Int) ^ K = (M : Int) := by rw [← hMM]; simp
      have k8 : IntKind.u64.wrap (K : Int) = (K : Int) := by rw [IntKind.wrap_u64]; omega
      have k9 : (0 : Int) ≤ (K : Int) ∧ (K : Int) ≤ 64 := by omega
      have UE := Lib.hid (fun (w' : World) (P : Nat) (h' : RqAt w' b bs P B0) (hP : P = n) => rqget_end b P 1 B0 bs w' h' (by omega) (by omega) (by omega))
      have UB := Lib.hid (fun (w' : World) (P x : Nat) (h' : RqAt w' b bs P B0) (hP : P < n) (hx : btN bs P = x) => rqget_bit b P x B0 bs w' h' (by omega) hx)
      have UGt := Lib.hid (fun (w' : World) (P N : Nat) (h' : RqAt w' b bs P B0) (hP : P + N ≤ n) (hN : N ≤ 32) => rqget_yes b P N B0 bs w' h' (by omega) hN)
      have UNt := Lib.hid (fun (w' : World) (P N : Nat) (h' : RqAt w' b bs P B0) (hP : P ≤ n) (he : n < P + N) (hN : N ≤ 32) => rqget_end b P N B0 bs w' h' (by omega) hN (by omega))
      clear hn h hR hRQ hG0 hMM
      go_enter Tryz.func70, Tryz.ntmps70
      go_wp2_with fail
      go_loopw [8] (fun qv wr => ∃ q : Nat, q ≤ 24 ∧ qv = .int .i64 (q : Int) ∧ p + q ≤ n ∧ Hid (riQ bs (24 - q) q (p + q) = RQ) ∧ Hid (RqAt wr b bs (p + q) B0) ∧ Hid (Kp b w wr) ∧ Hid (RBox wr w.heap.size)) (fun qv _ => 24 - (intOf qv).toNat)
      case atStart => exact ⟨0, by omega, rfl, hp, HRQ0.out, HA0.out, Kp.of_ext ((Ext.refl w).alloc _), RBox.new w⟩
      case round =>
        clear HA0 HRQ0
        obtain ⟨q, hq, rfl, hqn, HR, HQ, HK, HB⟩ := hrel
        by_cases hq24 : q = 24
        · subst hq24
          obtain ⟨P, hP⟩ : ∃ P, p + 24 = P := ⟨_, rfl⟩
          rw [hP] at HR HQ hqn
          have hPn := hqn
          have HRQ : Hid (RQ = (none, 24, P)) := by show _ = _; rw [← HR.out]; rfl
          obtain ⟨wz, hwz⟩ : ∃ wz, wz = wr := ⟨_, rfl⟩
          subst hwz
          clear hP HR
          -- in hand: wz, HQ : RqAt at P, HK, HB, HRQ : RQ = (none, 24, P), hPn : P ≤ n
          have hRz : R = riZ bs K most 24 P := by rw [← HR0.out]; unfold riE; rw [HRQ.out]
          by_cases hG : P + 31 ≤ n
          · have UG := Lib.hid (UGt.out wz P 31 HQ.out hG (by omega))
            have hl := nmN_lt bs P 31
            obtain ⟨V, hV⟩ : ∃ V, nmN bs P 31 = V := ⟨_, rfl⟩
            obtain ⟨Z, hZ⟩ : ∃ Z, P + 31 = Z := ⟨_, rfl⟩
            have hRv : R = if riX K 24 most V then (some ([(codesS, (Z : Int))], 3), 0, Z) else (none, (V : Int), Z) := by
              rw [hRz]
              unfold riZ
              rw [show riW K 24 = 31 from rfl, if_pos (by rw [← HN.out]; exact hG), show ∀ x, riN K 24 x = x from fun x => rfl, hV, hZ]
            rw [hV] at UG hl
            rw [hZ] at UG
            obtain ⟨X, hX⟩ : ∃ X, V / 2 ^ K = X := ⟨_, rfl⟩
            have i1 : (V : Int) / 2 ^ K = (X : Int) := by rw [← hX]; simp
            have i1' : (V : Int) / (M : Int) = (X : Int) := by rw [← jp]; exact i1
            have hXV : X ≤ V := by rw [← hX]; exact Nat.div_le_self _ _
            have i4 : IntKind.i64.wrap (X : Int) = (X : Int) := by rw [IntKind.wrap_i64]; omega
            have HX := Lib.hid hX
            clear hV hZ hRz hX
            by_cases t1 : most < (V : Int)
            · have HG : Hid (R = (some ([(codesS, (Z : Int))], 3), 0, Z)) := by show _ = _; rw [hRv, if_pos (by unfold riX; exact .inl t1)]
              clear hRv
              go_wp2_with fail
              refine (UG.out).mono ?_; rintro e w1 ⟨c1, u1, rfl, k1, r1, e1⟩
              obtain ⟨rfl, rfl⟩ := e1
              -- behind a call that did not fail: w1, k1 r1 HB HK -> wA, HBA HQA HKA
              have A1 : Ext w1 (w1.alloc (.cells #[.int .i64 0, .slice none 0 0] 34)) := (Ext.refl w1).alloc _
              have HQ1 := Lib.hid (r1.ext A1)
              have HB1 := Lib.hid ((HB.out.kp k1 hne).ext A1)
              have HK1 := Lib.hid ((HK.out.trans k1).ext A1)
              clear r1 k1 A1
              go_wp2_with fail
              refine (ok_any 0 _ _).mono ?_; rintro e wA ⟨rfl, hxA⟩
              rw [show ((0 : Int) == 0) = true from rfl]
              have q0 := hxA.cell (p := ⟨w1.heap.size, 0, none⟩) (v := .int .i64 0) (by simp)
              have q1 := hxA.cell (p := ⟨w1.heap.size, 1, none⟩) (v := .slice none 0 0) (by simp)
              have HBA := Lib.hid (HB1.out.ext hxA)
              have HQA := Lib.hid (HQ1.out.ext hxA)
              have HKA := Lib.hid (HK1.out.ext hxA)
              clear HQ1 HB1 HK1 hxA
              -- HG : R = (some codes, 0, Z), HQA : RqAt wA .. Z
              obtain ⟨za, zcap, ⟨z0, z1, z2⟩, -, -⟩ := HQA.out
              go_wp2_with fail
              refine (wrap_any codesS (Z : Int) 3 _ (by decide)).mono ?_; rintro e w9 ⟨u9, rfl, ho9, hx9⟩
              obtain ⟨va, vc, rfl⟩ : ∃ va vc, u9 = .slice va 1 vc := by
                rcases ho9.2 with ⟨-, h0⟩ | ⟨g, cap, cur, rfl, -⟩
                · cases h0
                · exact ⟨_, _, rfl⟩
              have HB9 := Lib.hid (HBA.out.ext hx9)
              have HR := Lib.hid (rq_end (f := some ([(codesS, (Z : Int))], 3)) HB9.out (HQA.out.ext hx9) (HKA.out.ext hx9) ⟨rfl, by decide, Row.of_owns ho9⟩ hbw)
              obtain ⟨g0, g1, g2, g3⟩ := HB9.out.res
              clear ho9 hx9 z0 z1 z2
              go_wp2
              obtain ⟨y0, y1⟩ := res_cells g0 g1 (c := 3) (.slice va 1 vc)
              exact bodyPost_ret (v := .tuple #[.int .i64 0, .agg #[.int .i64 3, .slice va 1 vc]]) (by simp [results, Tryz.results70, go_sem, y0, y1]) rfl ⟨3, .slice va 1 vc, by rw [HG.out], HR.out.1, by rw [HG.out]; exact HR.out.2.1, by rw [HG.out]; exact HR.out.2.2⟩
            · by_cases t2 : 1073741824 < V
              · have HG : Hid (R = (some ([(codesS, (Z : Int))], 3), 0, Z)) := by show _ = _; rw [hRv, if_pos (by unfold riX; exact .inr (.inl t2))]
                have t2' : (1073741824 : Int) < (V : Int) := by omega
                clear hRv
                go_wp2_with fail
                refine (UG.out).mono ?_; rintro e w1 ⟨c1, u1, rfl, k1, r1, e1⟩
                obtain ⟨rfl, rfl⟩ := e1
                -- behind a call that did not fail: w1, k1 r1 HB HK -> wA, HBA HQA HKA
                have A1 : Ext w1 (w1.alloc (.cells #[.int .i64 0, .slice none 0 0] 34)) := (Ext.refl w1).alloc _
                have HQ1 := Lib.hid (r1.ext A1)
                have HB1 := Lib.hid ((HB.out.kp k1 hne).ext A1)
                have HK1 := Lib.hid ((HK.out.trans k1).ext A1)
                clear r1 k1 A1
                go_wp2_with fail
                refine (ok_any 0 _ _).mono ?_; rintro e wA ⟨rfl, hxA⟩
                rw [show ((0 : Int) == 0) = true from rfl]
                have q0 := hxA.cell (p := ⟨w1.heap.size, 0, none⟩) (v := .int .i64 0) (by simp)
                have q1 := hxA.cell (p := ⟨w1.heap.size, 1, none⟩) (v := .slice none 0 0) (by simp)
                have HBA := Lib.hid (HB1.out.ext hxA)
                have HQA := Lib.hid (HQ1.out.ext hxA)
                have HKA := Lib.hid (HK1.out.ext hxA)
                clear HQ1 HB1 HK1 hxA
                -- HG : R = (some codes, 0, Z), HQA : RqAt wA .. Z
                obtain ⟨za, zcap, ⟨z0, z1, z2⟩, -, -⟩ := HQA.out
                go_wp2_with fail
                refine (wrap_any codesS (Z : Int) 3 _ (by decide)).mono ?_; rintro e w9 ⟨u9, rfl, ho9, hx9⟩
                obtain ⟨va, vc, rfl⟩ : ∃ va vc, u9 = .slice va 1 vc := by
                  rcases ho9.2 with ⟨-, h0⟩ | ⟨g, cap, cur, rfl, -⟩
                  · cases h0
                  · exact ⟨_, _, rfl⟩
                have HB9 := Lib.hid (HBA.out.ext hx9)
                have HR := Lib.hid (rq_end (f := some ([(codesS, (Z : Int))], 3)) HB9.out (HQA.out.ext hx9) (HKA.out.ext hx9) ⟨rfl, by decide, Row.of_owns ho9⟩ hbw)
                obtain ⟨g0, g1, g2, g3⟩ := HB9.out.res
                clear ho9 hx9 z0 z1 z2
                go_wp2
                obtain ⟨y0, y1⟩ := res_cells g0 g1 (c := 3) (.slice va 1 vc)
                exact bodyPost_ret (v := .tuple #[.int .i64 0, .agg #[.int .i64 3, .slice va 1 vc]]) (by simp [results, Tryz.results70, go_sem, y0, y1]) rfl ⟨3, .slice va 1 vc, by rw [HG.out], HR.out.1, by rw [HG.out]; exact HR.out.2.1, by rw [HG.out]; exact HR.out.2.2⟩
              · have t2' : ¬ (1073741824 : Int) < (V : Int) := by omega
                by_cases t3 : X < 24
                · have HG : Hid (R = (some ([(codesS, (Z : Int))], 3), 0, Z)) := by show _ = _; rw [hRv, if_pos (by unfold riX; rw [HX.out]; exact .inr (.inr ⟨rfl, t3⟩))]
                  have t3' : (X : Int) < 24 := by omega
                  clear hRv
                  go_wp2_with fail
                  refine (UG.out).mono ?_; rintro e w1 ⟨c1, u1, rfl, k1, r1, e1⟩
                  obtain ⟨rfl, rfl⟩ := e1
                  -- behind a call that did not fail: w1, k1 r1 HB HK -> wA, HBA HQA HKA
                  have A1 : Ext w1 (w1.alloc (.cells #[.int .i64 0, .slice none 0 0] 34)) := (Ext.refl w1).alloc _
                  have HQ1 := Lib.hid (r1.ext A1)
                  have HB1 := Lib.hid ((HB.out.kp k1 hne).ext A1)
                  have HK1 := Lib.hid ((HK.out.trans k1).ext A1)
                  clear r1 k1 A1
                  go_wp2_with fail
                  refine (ok_any 0 _ _).mono ?_; rintro e wA ⟨rfl, hxA⟩
                  rw [show ((0 : Int) == 0) = true from rfl]
                  have q0 := hxA.cell (p := ⟨w1.heap.size, 0, none⟩) (v := .int .i64 0) (by simp)
                  have q1 := hxA.cell (p := ⟨w1.heap.size, 1, none⟩) (v := .slice none 0 0) (by simp)
                  have HBA := Lib.hid (HB1.out.ext hxA)
                  have HQA := Lib.hid (HQ1.out.ext hxA)
                  have HKA := Lib.hid (HK1.out.ext hxA)
                  clear HQ1 HB1 HK1 hxA
                  -- HG : R = (some codes, 0, Z), HQA : RqAt wA .. Z
                  obtain ⟨za, zcap, ⟨z0, z1, z2⟩, -, -⟩ := HQA.out
                  go_wp2_with fail
                  refine (wrap_any codesS (Z : Int) 3 _ (by decide)).mono ?_; rintro e w9 ⟨u9, rfl, ho9, hx9⟩
                  obtain ⟨va, vc, rfl⟩ : ∃ va vc, u9 = .slice va 1 vc := by
                    rcases ho9.2 with ⟨-, h0⟩ | ⟨g, cap, cur, rfl, -⟩
                    · cases h0
                    · exact ⟨_, _, rfl⟩
                  have HB9 := Lib.hid (HBA.out.ext hx9)
                  have HR := Lib.hid (rq_end (f := some ([(codesS, (Z : Int))], 3)) HB9.out (HQA.out.ext hx9) (HKA.out.ext hx9) ⟨rfl, by decide, Row.of_owns ho9⟩ hbw)
                  obtain ⟨g0, g1, g2, g3⟩ := HB9.out.res
                  clear ho9 hx9 z0 z1 z2
                  go_wp2
                  obtain ⟨y0, y1⟩ := res_cells g0 g1 (c := 3) (.slice va 1 vc)
                  exact bodyPost_ret (v := .tuple #[.int .i64 0, .agg #[.int .i64 3, .slice va 1 vc]]) (by simp [results, Tryz.results70, go_sem, y0, y1]) rfl ⟨3, .slice va 1 vc, by rw [HG.out], HR.out.1, by rw [HG.out]; exact HR.out.2.1, by rw [HG.out]; exact HR.out.2.2⟩
                · have HG : Hid (R = (none, (V : Int), Z)) := by show _ = _; rw [hRv, if_neg (by unfold riX; rw [HX.out]; omega)]
                  have t3' : ¬ (X : Int) < 24 := by omega
                  clear hRv
                  go_wp2_with fail
                  refine (UG.out).mono ?_; rintro e w1 ⟨c1, u1, rfl, k1, r1, e1⟩
                  obtain ⟨rfl, rfl⟩ := e1
                  -- behind a call that did not fail: w1, k1 r1 HB HK -> wA, HBA HQA HKA
                  have A1 : Ext w1 (w1.alloc (.cells #[.int .i64 0, .slice none 0 0] 34)) := (Ext.refl w1).alloc _
                  have HQ1 := Lib.hid (r1.ext A1)
                  have HB1 := Lib.hid ((HB.out.kp k1 hne).ext A1)
                  have HK1 := Lib.hid ((HK.out.trans k1).ext A1)
                  clear r1 k1 A1
                  go_wp2_with fail
                  refine (ok_any 0 _ _).mono ?_; rintro e wA ⟨rfl, hxA⟩
                  rw [show ((0 : Int) == 0) = true from rfl]
                  have q0 := hxA.cell (p := ⟨w1.heap.size, 0, none⟩) (v := .int .i64 0) (by simp)
                  have q1 := hxA.cell (p := ⟨w1.heap.size, 1, none⟩) (v := .slice none 0 0) (by simp)
                  have HBA := Lib.hid (HB1.out.ext hxA)
                  have HQA := Lib.hid (HQ1.out.ext hxA)
                  have HKA := Lib.hid (HK1.out.ext hxA)
                  clear HQ1 HB1 HK1 hxA
                  -- 'return v, e' of a variable that holds no error
                  have HR := Lib.hid (rq_end (f := none) (c := 0) (u := .slice none 0 0) HBA.out HQA.out HKA.out ⟨rfl, rfl⟩ hbw)
                  obtain ⟨g0, g1, g2, g3⟩ := HBA.out.res
                  go_wp2
                  go_region
                  go_wp2
                  obtain ⟨y0, y1⟩ := res_cells g0 g1 (c := 0) (.slice none 0 0)
                  exact bodyPost_ret (v := .tuple #[.int .i64 (V : Int), .agg #[.int .i64 0, .slice none 0 0]]) (by simp [results, Tryz.results70, go_sem, y0, y1]) rfl ⟨0, .slice none 0 0, by rw [HG.out], HR.out.1.ext (Ext.refl _).drew, by rw [HG.out]; exact HR.out.2.1.ext (Ext.refl _).drew, by rw [HG.out]; exact HR.out.2.2.ext (Ext.refl _).drew⟩
          · have HG : Hid (R = (some ([(bitsS, (P : Int))], 1), 0, P)) := by
              show _ = _
              rw [hRz]
              unfold riZ
              rw [show riW K 24 = 31 from rfl, if_neg (by rw [← HN.out]; exact hG)]
            have UN2 := Lib.hid (UNt.out wz P 31 HQ.out hPn (by omega) (by omega))
            clear hRz
            go_wp2_with fail
            refine (UN2.out).mono ?_; rintro e w1 ⟨c1, u1, rfl, k1, r1, e1⟩
            -- behind a call that failed: w1, c1, u1: k1 r1 e1, HB HK; hne : w.heap.size ≠ b, hbw; HG : R = (some .., 0, ..)
            obtain ⟨ua, un, uc, rfl⟩ := e1.form
            have hc0 : (c1 == 0) = false := by
              obtain ⟨h1, h2, -⟩ := e1
              rw [h1, beq_eq_false_iff_ne]
              exact h2
            have A1 : Ext w1 (w1.alloc (.cells #[.int .i64 c1, .slice ua un uc] 34)) := (Ext.refl w1).alloc _
            have HE1 := Lib.hid (e1.ext A1)
            have HQ1 := Lib.hid (r1.ext A1)
            have HB1 := Lib.hid ((HB.out.kp k1 hne).ext A1)
            have HK1 := Lib.hid ((HK.out.trans k1).ext A1)
            clear e1 r1 k1 A1
            go_wp2_with fail
            refine (ok_any c1 _ _).mono ?_; rintro e wA ⟨rfl, hxA⟩
            rw [hc0]
            have q0 := hxA.cell (p := ⟨w1.heap.size, 0, none⟩) (v := .int .i64 c1) (by simp)
            have q1 := hxA.cell (p := ⟨w1.heap.size, 1, none⟩) (v := .slice ua un uc) (by simp)
            have HBA := Lib.hid (HB1.out.ext hxA)
            have HR := Lib.hid (rq_end HBA.out (HQ1.out.ext hxA) (HK1.out.ext hxA) (HE1.out.ext hxA) hbw)
            obtain ⟨g0, g1, g2, g3⟩ := HBA.out.res
            clear HE1 HQ1 HB1 HK1 hxA hc0
            go_wp2
            go_region
            go_wp2
            obtain ⟨y0, y1⟩ := res_cells g0 g1 (c := c1) (.slice ua un uc)
            exact bodyPost_ret (v := .tuple #[.int .i64 0, .agg #[.int .i64 c1, .slice ua un uc]]) (by simp [results, Tryz.results70, go_sem, y0, y1]) rfl ⟨c1, .slice ua un uc, by rw [HG.out], HR.out.1.ext (Ext.refl _).drew, by rw [HG.out]; exact HR.out.2.1.ext (Ext.refl _).drew, by rw [HG.out]; exact HR.out.2.2.ext (Ext.refl _).drew⟩
        · have hql : (q : Int) < 24 := by omega
          obtain ⟨P, hP⟩ : ∃ P, p + q = P := ⟨_, rfl⟩
          have HPq := Lib.hid hP
          rw [hP] at HR HQ hqn
          rw [show 24 - q = (23 - q) + 1 by omega] at HR
          clear hP
          by_cases hE : P = n
          · have hRQ : RQ = (some ([(bitsS, (P : Int))], 1), q, P) := by rw [← HR.out]; exact riQ_end (by rw [← HN.out]; omega)
            have HG : Hid (R = (some ([(bitsS, (P : Int))], 1), 0, P)) := by show _ = _; rw [← HR0.out]; unfold riE; rw [hRQ]
            have HE := Lib.hid (UE.out wr P HQ.out hE)
            clear hRQ HR hE
            go_wp2_with fail
            refine (HE.out).mono ?_; rintro e w1 ⟨c1, u1, rfl, k1, r1, e1⟩
            -- behind a call that failed: w1, c1, u1: k1 r1 e1, HB HK; hne : w.heap.size ≠ b, hbw; HG : R = (some .., 0, ..)
            obtain ⟨ua, un, uc, rfl⟩ := e1.form
            have hc0 : (c1 == 0) = false := by
              obtain ⟨h1, h2, -⟩ := e1
              rw [h1, beq_eq_false_iff_ne]
              exact h2
            have A1 : Ext w1 (w1.alloc (.cells #[.int .i64 c1, .slice ua un uc] 34)) := (Ext.refl w1).alloc _
            have HE1 := Lib.hid (e1.ext A1)
            have HQ1 := Lib.hid (r1.ext A1)
            have HB1 := Lib.hid ((HB.out.kp k1 hne).ext A1)
            have HK1 := Lib.hid ((HK.out.trans k1).ext A1)
            clear e1 r1 k1 A1
            go_wp2_with fail
            refine (ok_any c1 _ _).mono ?_; rintro e wA ⟨rfl, hxA⟩
            rw [hc0]
            have q0 := hxA.cell (p := ⟨w1.heap.size, 0, none⟩) (v := .int .i64 c1) (by simp)
            have q1 := hxA.cell (p := ⟨w1.heap.size, 1, none⟩) (v := .slice ua un uc) (by simp)
            have HBA := Lib.hid (HB1.out.ext hxA)
            have HR := Lib.hid (rq_end HBA.out (HQ1.out.ext hxA) (HK1.out.ext hxA) (HE1.out.ext hxA) hbw)
            obtain ⟨g0, g1, g2, g3⟩ := HBA.out.res
            clear HE1 HQ1 HB1 HK1 hxA hc0
            go_wp2
            go_region
            go_wp2
            obtain ⟨y0, y1⟩ := res_cells g0 g1 (c := c1) (.slice ua un uc)
            exact bodyPost_ret (v := .tuple #[.int .i64 0, .agg #[.int .i64 c1, .slice ua un uc]]) (by simp [results, Tryz.results70, go_sem, y0, y1]) rfl ⟨c1, .slice ua un uc, by rw [HG.out], HR.out.1.ext (Ext.refl _).drew, by rw [HG.out]; exact HR.out.2.1.ext (Ext.refl _).drew, by rw [HG.out]; exact HR.out.2.2.ext (Ext.refl _).drew⟩
          · have hPn1 : P < n := by omega
            by_cases hB : btN bs P = 1
            · have HC := Lib.hid (UB.out wr P 1 HQ.out hPn1 hB)
              have HRQ : Hid (riQ bs (23 - q) (q + 1) (P + 1) = RQ) := by show _ = _; rw [← HR.out]; exact (riQ_one (by rw [← HN.out]; omega) hB).symm
              clear HR hB hE
              go_wp2_with fail
              refine (HC.out).mono ?_; rintro e w1 ⟨c1, u1, rfl, k1, r1, e1⟩
              obtain ⟨rfl, rfl⟩ := e1
              -- behind a call that did not fail: w1, k1 r1 HB HK -> wA, HBA HQA HKA
              have A1 : Ext w1 (w1.alloc (.cells #[.int .i64 0, .slice none 0 0] 34)) := (Ext.refl w1).alloc _
              have HQ1 := Lib.hid (r1.ext A1)
              have HB1 := Lib.hid ((HB.out.kp k1 hne).ext A1)
              have HK1 := Lib.hid ((HK.out.trans k1).ext A1)
              clear r1 k1 A1
              go_wp2_with fail
              refine (ok_any 0 _ _).mono ?_; rintro e wA ⟨rfl, hxA⟩
              rw [show ((0 : Int) == 0) = true from rfl]
              have q0 := hxA.cell (p := ⟨w1.heap.size, 0, none⟩) (v := .int .i64 0) (by simp)
              have q1 := hxA.cell (p := ⟨w1.heap.size, 1, none⟩) (v := .slice none 0 0) (by simp)
              have HBA := Lib.hid (HB1.out.ext hxA)
              have HQA := Lib.hid (HQ1.out.ext hxA)
              have HKA := Lib.hid (HK1.out.ext hxA)
              clear HQ1 HB1 HK1 hxA
              go_wp2
              go_roundw
              case rel => exact ⟨q + 1, by omega, by go_num, by have := HPq.out; omega, by show _ = _; rw [show 24 - (q + 1) = 23 - q by omega, show p + (q + 1) = P + 1 by have := HPq.out; omega]; exact HRQ.out, by show RqAt _ _ _ _ _; rw [show p + (q + 1) = P + 1 by have := HPq.out; omega]; exact HQA.out, HKA.out, HBA.out⟩
              case measure => simp [intOf]; omega
            · have hb0 : btN bs P = 0 := by have := btN_lt bs P; omega
              have HC := Lib.hid (UB.out wr P 0 HQ.out hPn1 hb0)
              have HRQ : Hid (RQ = (none, q, P + 1)) := by show _ = _; rw [← HR.out]; exact riQ_nil (by rw [← HN.out]; omega) hB
              clear HR hB hb0 hE
              go_wp2_with fail
              refine (HC.out).mono ?_; rintro e w1 ⟨c1, u1, rfl, k1, r1, e1⟩
              obtain ⟨rfl, rfl⟩ := e1
              -- behind a call that did not fail: w1, k1 r1 HB HK -> wA, HBA HQA HKA
              have A1 : Ext w1 (w1.alloc (.cells #[.int .i64 0, .slice none 0 0] 34)) := (Ext.refl w1).alloc _
              have HQ1 := Lib.hid (r1.ext A1)
              have HB1 := Lib.hid ((HB.out.kp k1 hne).ext A1)
              have HK1 := Lib.hid ((HK.out.trans k1).ext A1)
              clear r1 k1 A1
              go_wp2_with fail
              refine (ok_any 0 _ _).mono ?_; rintro e wA ⟨rfl, hxA⟩
              rw [show ((0 : Int) == 0) = true from rfl]
              have q0 := hxA.cell (p := ⟨w1.heap.size, 0, none⟩) (v := .int .i64 0) (by simp)
              have q1 := hxA.cell (p := ⟨w1.heap.size, 1, none⟩) (v := .slice none 0 0) (by simp)
              have HBA := Lib.hid (HB1.out.ext hxA)
              have HQA := Lib.hid (HQ1.out.ext hxA)
              have HKA := Lib.hid (HK1.out.ext hxA)
              clear HQ1 HB1 HK1 hxA
              obtain ⟨P1, hP1⟩ : ∃ P1, P + 1 = P1 := ⟨_, rfl⟩
              rw [hP1] at HQA HRQ
              have hPn : P1 ≤ n := by omega
              have HQ2 := HQA
              have HK2 := HKA
              have HB2 := HBA
              clear HQ HK HB HQA HKA HBA hP1 q0 q1 HC
              have HQ := HQ2
              have HK := HK2
              have HB := HB2
              clear HQ2 HK2 HB2
              obtain ⟨wz, hwz⟩ : ∃ wz, wz = wA := ⟨_, rfl⟩
              subst hwz
              -- in hand: wz, HQ : RqAt at P1, HK HB, HRQ : RQ = (none, q, P1), hPn : P1 ≤ n, q < 24
              have hRz : R = riZ bs K most q P1 := by rw [← HR0.out]; unfold riE; rw [HRQ.out]
              have hw : riW K q = K := by unfold riW; rw [if_neg (by omega)]
              have q24 : ((q : Int) == 24) = false := by rw [beq_eq_false_iff_ne]; omega
              by_cases hG : P1 + K ≤ n
              · have UG := Lib.hid (UGt.out wz P1 K HQ.out hG (by omega))
                have hl := nmN_lt bs P1 K
                have hM : 2 ^ K ≤ 2 ^ 15 := Nat.pow_le_pow_right (by decide) (by omega)
                have hqM : q * 2 ^ K ≤ 24 * 2 ^ 15 := Nat.mul_le_mul (by omega) hM
                obtain ⟨x, hx⟩ : ∃ x, nmN bs P1 K = x := ⟨_, rfl⟩
                obtain ⟨Z, hZ⟩ : ∃ Z, P1 + K = Z := ⟨_, rfl⟩
                obtain ⟨Y, hY⟩ : ∃ Y, q * 2 ^ K = Y := ⟨_, rfl⟩
                obtain ⟨V, hV⟩ : ∃ V, x + Y = V := ⟨_, rfl⟩
                have hRv : R = if riX K q most V then (some ([(codesS, (Z : Int))], 3), 0, Z) else (none, (V : Int), Z) := by
                  rw [hRz]
                  unfold riZ
                  rw [hw, if_pos (by rw [← HN.out]; exact hG), show ∀ x, riN K q x = x + q * 2 ^ K from fun x => by unfold riN; rw [if_neg (by omega)], hx, hY, hV, hZ]
                rw [hx] at UG hl
                rw [hZ] at UG
                rw [hY] at hqM
                have i1 : (q : Int) * 2 ^ K = (Y : Int) := by rw [← hY]; simp
                have i1' : (q : Int) * (M : Int) = (Y : Int) := by rw [← jp]; exact i1
                have i2 : IntKind.i64.wrap (Y : Int) = (Y : Int) := by rw [IntKind.wrap_i64]; omega
                have i4 : IntKind.i64.wrap ((Y : Int) + (x : Int)) = (V : Int) := by rw [IntKind.wrap_i64]; omega
                clear hx hZ hRz hY hV
                by_cases t1 : most < (V : Int)
                · have HG : Hid (R = (some ([(codesS, (Z : Int))], 3), 0, Z)) := by show _ = _; rw [hRv, if_pos (by unfold riX; exact .inl t1)]
                  clear hRv
                  go_wp2_with fail
                  refine (UG.out).mono ?_; rintro e w1 ⟨c1, u1, rfl, k1, r1, e1⟩
                  obtain ⟨rfl, rfl⟩ := e1
                  -- behind a call that did not fail: w1, k1 r1 HB HK -> wA, HBA HQA HKA
                  have A1 : Ext w1 (w1.alloc (.cells #[.int .i64 0, .slice none 0 0] 34)) := (Ext.refl w1).alloc _
                  have HQ1 := Lib.hid (r1.ext A1)
                  have HB1 := Lib.hid ((HB.out.kp k1 hne).ext A1)
                  have HK1 := Lib.hid ((HK.out.trans k1).ext A1)
                  clear r1 k1 A1
                  go_wp2_with fail
                  refine (ok_any 0 _ _).mono ?_; rintro e wA ⟨rfl, hxA⟩
                  rw [show ((0 : Int) == 0) = true from rfl]
                  have q0 := hxA.cell (p := ⟨w1.heap.size, 0, none⟩) (v := .int .i64 0) (by simp)
                  have q1 := hxA.cell (p := ⟨w1.heap.size, 1, none⟩) (v := .slice none 0 0) (by simp)
                  have HBA := Lib.hid (HB1.out.ext hxA)
                  have HQA := Lib.hid (HQ1.out.ext hxA)
                  have HKA := Lib.hid (HK1.out.ext hxA)
                  clear HQ1 HB1 HK1 hxA
                  -- HG : R = (some codes, 0, Z), HQA : RqAt wA .. Z
                  obtain ⟨za, zcap, ⟨z0, z1, z2⟩, -, -⟩ := HQA.out
                  go_wp2_with fail
                  refine (wrap_any codesS (Z : Int) 3 _ (by decide)).mono ?_; rintro e w9 ⟨u9, rfl, ho9, hx9⟩
                  obtain ⟨va, vc, rfl⟩ : ∃ va vc, u9 = .slice va 1 vc := by
                    rcases ho9.2 with ⟨-, h0⟩ | ⟨g, cap, cur, rfl, -⟩
                    · cases h0
                    · exact ⟨_, _, rfl⟩
                  have HB9 := Lib.hid (HBA.out.ext hx9)
                  have HR := Lib.hid (rq_end (f := some ([(codesS, (Z : Int))], 3)) HB9.out (HQA.out.ext hx9) (HKA.out.ext hx9) ⟨rfl, by decide, Row.of_owns ho9⟩ hbw)
                  obtain ⟨g0, g1, g2, g3⟩ := HB9.out.res
                  clear ho9 hx9 z0 z1 z2
                  go_wp2
                  obtain ⟨y0, y1⟩ := res_cells g0 g1 (c := 3) (.slice va 1 vc)
                  exact bodyPost_ret (v := .tuple #[.int .i64 0, .agg #[.int .i64 3, .slice va 1 vc]]) (by simp [results, Tryz.results70, go_sem, y0, y1]) rfl ⟨3, .slice va 1 vc, by rw [HG.out], HR.out.1, by rw [HG.out]; exact HR.out.2.1, by rw [HG.out]; exact HR.out.2.2⟩
                · by_cases t2 : 1073741824 < V
                  · have HG : Hid (R = (some ([(codesS, (Z : Int))], 3), 0, Z)) := by show _ = _; rw [hRv, if_pos (by unfold riX; exact .inr (.inl t2))]
                    have t2' : (1073741824 : Int) < (V : Int) := by omega
                    clear hRv
                    go_wp2_with fail
                    refine (UG.out).mono ?_; rintro e w1 ⟨c1, u1, rfl, k1, r1, e1⟩
                    obtain ⟨rfl, rfl⟩ := e1
                    -- behind a call that did not fail: w1, k1 r1 HB HK -> wA, HBA HQA HKA
                    have A1 : Ext w1 (w1.alloc (.cells #[.int .i64 0, .slice none 0 0] 34)) := (Ext.refl w1).alloc _
                    have HQ1 := Lib.hid (r1.ext A1)
                    have HB1 := Lib.hid ((HB.out.kp k1 hne).ext A1)
                    have HK1 := Lib.hid ((HK.out.trans k1).ext A1)
                    clear r1 k1 A1
                    go_wp2_with fail
                    refine (ok_any 0 _ _).mono ?_; rintro e wA ⟨rfl, hxA⟩
                    rw [show ((0 : Int) == 0) = true from rfl]
                    have q0 := hxA.cell (p := ⟨w1.heap.size, 0, none⟩) (v := .int .i64 0) (by simp)
                    have q1 := hxA.cell (p := ⟨w1.heap.size, 1, none⟩) (v := .slice none 0 0) (by simp)
                    have HBA := Lib.hid (HB1.out.ext hxA)
                    have HQA := Lib.hid (HQ1.out.ext hxA)
                    have HKA := Lib.hid (HK1.out.ext hxA)
                    clear HQ1 HB1 HK1 hxA
                    -- HG : R = (some codes, 0, Z), HQA : RqAt wA .. Z
                    obtain ⟨za, zcap, ⟨z0, z1, z2⟩, -, -⟩ := HQA.out
                    go_wp2_with fail
                    refine (wrap_any codesS (Z : Int) 3 _ (by decide)).mono ?_; rintro e w9 ⟨u9, rfl, ho9, hx9⟩
                    obtain ⟨va, vc, rfl⟩ : ∃ va vc, u9 = .slice va 1 vc := by
                      rcases ho9.2 with ⟨-, h0⟩ | ⟨g, cap, cur, rfl, -⟩
                      · cases h0
                      · exact ⟨_, _, rfl⟩
                    have HB9 := Lib.hid (HBA.out.ext hx9)
                    have HR := Lib.hid (rq_end (f := some ([(codesS, (Z : Int))], 3)) HB9.out (HQA.out.ext hx9) (HKA.out.ext hx9) ⟨rfl, by decide, Row.of_owns ho9⟩ hbw)
                    obtain ⟨g0, g1, g2, g3⟩ := HB9.out.res
                    clear ho9 hx9 z0 z1 z2
                    go_wp2
                    obtain ⟨y0, y1⟩ := res_cells g0 g1 (c := 3) (.slice va 1 vc)
                    exact bodyPost_ret (v := .tuple #[.int .i64 0, .agg #[.int .i64 3, .slice va 1 vc]]) (by simp [results, Tryz.results70, go_sem, y0, y1]) rfl ⟨3, .slice va 1 vc, by rw [HG.out], HR.out.1, by rw [HG.out]; exact HR.out.2.1, by rw [HG.out]; exact HR.out.2.2⟩
                  · have t2' : ¬ (1073741824 : Int) < (V : Int) := by omega
                    have HG : Hid (R = (none, (V : Int), Z)) := by show _ = _; rw [hRv, if_neg (by unfold riX; omega)]
                    clear hRv
                    go_wp2_with fail
                    refine (UG.out).mono ?_; rintro e w1 ⟨c1, u1, rfl, k1, r1, e1⟩
                    obtain ⟨rfl, rfl⟩ := e1
                    -- behind a call that did not fail: w1, k1 r1 HB HK -> wA, HBA HQA HKA
                    have A1 : Ext w1 (w1.alloc (.cells #[.int .i64 0, .slice none 0 0] 34)) := (Ext.refl w1).alloc _
                    have HQ1 := Lib.hid (r1.ext A1)
                    have HB1 := Lib.hid ((HB.out.kp k1 hne).ext A1)
                    have HK1 := Lib.hid ((HK.out.trans k1).ext A1)
                    clear r1 k1 A1
                    go_wp2_with fail
                    refine (ok_any 0 _ _).mono ?_; rintro e wA ⟨rfl, hxA⟩
                    rw [show ((0 : Int) == 0) = true from rfl]
                    have q0 := hxA.cell (p := ⟨w1.heap.size, 0, none⟩) (v := .int .i64 0) (by simp)
                    have q1 := hxA.cell (p := ⟨w1.heap.size, 1, none⟩) (v := .slice none 0 0) (by simp)
                    have HBA := Lib.hid (HB1.out.ext hxA)
                    have HQA := Lib.hid (HQ1.out.ext hxA)
                    have HKA := Lib.hid (HK1.out.ext hxA)
                    clear HQ1 HB1 HK1 hxA
                    -- 'return v, e' of a variable that holds no error
                    have HR := Lib.hid (rq_end (f := none) (c := 0) (u := .slice none 0 0) HBA.out HQA.out HKA.out ⟨rfl, rfl⟩ hbw)
                    obtain ⟨g0, g1, g2, g3⟩ := HBA.out.res
                    go_wp2
                    go_region
                    go_wp2
                    obtain ⟨y0, y1⟩ := res_cells g0 g1 (c := 0) (.slice none 0 0)
                    exact bodyPost_ret (v := .tuple #[.int .i64 (V : Int), .agg #[.int .i64 0, .slice none 0 0]]) (by simp [results, Tryz.results70, go_sem, y0, y1]) rfl ⟨0, .slice none 0 0, by rw [HG.out], HR.out.1.ext (Ext.refl _).drew, by rw [HG.out]; exact HR.out.2.1.ext (Ext.refl _).drew, by rw [HG.out]; exact HR.out.2.2.ext (Ext.refl _).drew⟩
              · have HG : Hid (R = (some ([(bitsS, (P1 : Int))], 1), 0, P1)) := by
                  show _ = _
                  rw [hRz]
                  unfold riZ
                  rw [hw, if_neg (by rw [← HN.out]; exact hG)]
                have UN2 := Lib.hid (UNt.out wz P1 K HQ.out hPn (by omega) (by omega))
                clear hRz
                go_wp2_with fail
                refine (UN2.out).mono ?_; rintro e w1 ⟨c1, u1, rfl, k1, r1, e1⟩
                -- behind a call that failed: w1, c1, u1: k1 r1 e1, HB HK; hne : w.heap.size ≠ b, hbw; HG : R = (some .., 0, ..)
                obtain ⟨ua, un, uc, rfl⟩ := e1.form
                have hc0 : (c1 == 0) = false := by
                  obtain ⟨h1, h2, -⟩ := e1
                  rw [h1, beq_eq_false_iff_ne]
                  exact h2
                have A1 : Ext w1 (w1.alloc (.cells #[.int .i64 c1, .slice ua un uc] 34)) := (Ext.refl w1).alloc _
                have HE1 := Lib.hid (e1.ext A1)
                have HQ1 := Lib.hid (r1.ext A1)
                have HB1 := Lib.hid ((HB.out.kp k1 hne).ext A1)
                have HK1 := Lib.hid ((HK.out.trans k1).ext A1)
                clear e1 r1 k1 A1
                go_wp2_with fail
                refine (ok_any c1 _ _).mono ?_; rintro e wA ⟨rfl, hxA⟩
                rw [hc0]
                have q0 := hxA.cell (p := ⟨w1.heap.size, 0, none⟩) (v := .int .i64 c1) (by simp)
                have q1 := hxA.cell (p := ⟨w1.heap.size, 1, none⟩) (v := .slice ua un uc) (by simp)
                have HBA := Lib.hid (HB1.out.ext hxA)
                have HR := Lib.hid (rq_end HBA.out (HQ1.out.ext hxA) (HK1.out.ext hxA) (HE1.out.ext hxA) hbw)
                obtain ⟨g0, g1, g2, g3⟩ := HBA.out.res
                clear HE1 HQ1 HB1 HK1 hxA hc0
                go_wp2
                go_region
                go_wp2
                obtain ⟨y0, y1⟩ := res_cells g0 g1 (c := c1) (.slice ua un uc)
                exact bodyPost_ret (v := .tuple #[.int .i64 0, .agg #[.int .i64 c1, .slice ua un uc]]) (by simp [results, Tryz.results70, go_sem, y0, y1]) rfl ⟨c1, .slice ua un uc, by rw [HG.out], HR.out.1.ext (Ext.refl _).drew, by rw [HG.out]; exact HR.out.2.1.ext (Ext.refl _).drew, by rw [HG.out]; exact HR.out.2.2.ext (Ext.refl _).drew⟩
end Go.Proofs.YtgohlhgapboijaaGreatDoor

/- kinref3.PutUe, PutSe, PutRice: contracts over this seat's translation. -/
namespace Go.Proofs.YtgohlhgapboijaaGreatDoor
set_option linter.unusedVariables false
set_option linter.unusedSimpArgs false
open Go.RowKit Go.Extern.Stop Go.Stop Go.Extern

theorem RBox.xkp {w w' : World} {b B R : Nat} (h : RBox w R) (k : XKp b B w w') (hb : R ≠ b) : RBox w' R := k.box h (by decide) hb
theorem xw_end {w wz : World} {b B : Nat} {l : List Bool} {f : Fall} {c : Int} {u : Value} (hb : RBox wz w.heap.size) (hx : XwAt wz b B l) (hk : XKp b B w wz) (he : RErrIs wz f c u) (hbw : b < w.heap.size) :
    XwAt ((wz.setCell ⟨w.heap.size, 0, none⟩ (.int .i64 c)).setCell ⟨w.heap.size, 1, none⟩ u) b B l ∧ XKp b B w ((wz.setCell ⟨w.heap.size, 0, none⟩ (.int .i64 c)).setCell ⟨w.heap.size, 1, none⟩ u) ∧ RErrIs ((wz.setCell ⟨w.heap.size, 0, none⟩ (.int .i64 c)).setCell ⟨w.heap.size, 1, none⟩ u) f c u :=
  ⟨hx.far hb (by decide) (((Kp.refl w.heap.size wz).set 0 _).set 1 _) (by omega), (hk.fresh (Nat.le_refl _) 0 _).fresh (Nat.le_refl _) 1 _, he.box hb _ _⟩
theorem XwAt.lt {w : World} {b B : Nat} {l : List Bool} (h : XwAt w b B l) : b < w.heap.size := by
  obtain ⟨v, ⟨c0, -⟩, -⟩ := h
  exact Ext.lt (p := ⟨b, 0, none⟩) c0
set_option maxHeartbeats 4000000 in
set_option maxRecDepth 20000 in
theorem rputri_any (b B : Nat) (v k : Int) (l : List Bool) (w : World) (h : XwAt w b B l) (hl : l.length ≤ 800000) :
    Calls Tryz.prog 27 #[.pointer (some ⟨b, 0, none⟩), .int .i64 v, .int .i64 k] w (XPPost w b B (crL l v k) (crF v k)) := by
  by_cases h1 : v < 0
  · have HF : Hid (crF v k = range) := by show _ = _; unfold crF; rw [if_neg (by unfold riOk; omega)]
    have HL : Hid (crL l v k = l) := by show _ = _; unfold crL; rw [if_neg (by unfold riOk; omega)]
    -- HF, HL
    have hbw : b < w.heap.size := h.lt
    have A0 : Ext w (w.alloc (.cells #[.int .i64 0, .slice none 0 0] 34)) := (Ext.refl w).alloc _
    have HX := Lib.hid (h.ext A0)
    have HB := Lib.hid (RBox.new w)
    have HK := Lib.hid (XKp.of_ext (b := b) (B := B) A0)
    clear A0 h
    go_enter Tryz.func27, Tryz.ntmps27
    go_wp2_with fail
    refine (fail_any 3 _).mono ?_; rintro e w1 ⟨rfl, hx1⟩
    have HB1 := Lib.hid (HB.out.ext hx1)
    have HR := Lib.hid (xw_end (f := range) (c := 3) (u := .slice none 0 0) HB1.out (HX.out.ext hx1) (HK.out.trans (XKp.of_ext hx1)) (RErrIs.code (by decide)) hbw)
    obtain ⟨g0, g1, g2, g3⟩ := HB1.out.res
    go_wp2
    obtain ⟨y0, y1⟩ := res_cells g0 g1 (c := 3) (.slice none 0 0)
    exact bodyPost_ret (v := .agg #[.int .i64 3, .slice none 0 0]) (by simp [results, Tryz.results27, go_sem, y0, y1]) rfl ⟨3, .slice none 0 0, rfl, by rw [HL.out]; exact HR.out.1, HR.out.2.1, by rw [HF.out]; exact HR.out.2.2⟩
  · by_cases h2 : 1073741824 < v
    · have HF : Hid (crF v k = range) := by show _ = _; unfold crF; rw [if_neg (by unfold riOk; omega)]
      have HL : Hid (crL l v k = l) := by show _ = _; unfold crL; rw [if_neg (by unfold riOk; omega)]
      -- HF, HL
      have hbw : b < w.heap.size := h.lt
      have A0 : Ext w (w.alloc (.cells #[.int .i64 0, .slice none 0 0] 34)) := (Ext.refl w).alloc _
      have HX := Lib.hid (h.ext A0)
      have HB := Lib.hid (RBox.new w)
      have HK := Lib.hid (XKp.of_ext (b := b) (B := B) A0)
      clear A0 h
      go_enter Tryz.func27, Tryz.ntmps27
      go_wp2_with fail
      refine (fail_any 3 _).mono ?_; rintro e w1 ⟨rfl, hx1⟩
      have HB1 := Lib.hid (HB.out.ext hx1)
      have HR := Lib.hid (xw_end (f := range) (c := 3) (u := .slice none 0 0) HB1.out (HX.out.ext hx1) (HK.out.trans (XKp.of_ext hx1)) (RErrIs.code (by decide)) hbw)
      obtain ⟨g0, g1, g2, g3⟩ := HB1.out.res
      go_wp2
      obtain ⟨y0, y1⟩ := res_cells g0 g1 (c := 3) (.slice none 0 0)
      exact bodyPost_ret (v := .agg #[.int .i64 3, .slice none 0 0]) (by simp [results, Tryz.results27, go_sem, y0, y1]) rfl ⟨3, .slice none 0 0, rfl, by rw [HL.out]; exact HR.out.1, HR.out.2.1, by rw [HF.out]; exact HR.out.2.2⟩
    · by_cases h3 : k < 0
      · have HF : Hid (crF v k = range) := by show _ = _; unfold crF; rw [if_neg (by unfold riOk; omega)]
        have HL : Hid (crL l v k = l) := by show _ = _; unfold crL; rw [if_neg (by unfold riOk; omega)]
        -- HF, HL
        have hbw : b < w.heap.size := h.lt
        have A0 : Ext w (w.alloc (.cells #[.int .i64 0, .slice none 0 0] 34)) := (Ext.refl w).alloc _
        have HX := Lib.hid (h.ext A0)
        have HB := Lib.hid (RBox.new w)
        have HK := Lib.hid (XKp.of_ext (b := b) (B := B) A0)
        clear A0 h
        go_enter Tryz.func27, Tryz.ntmps27
        go_wp2_with fail
        refine (fail_any 3 _).mono ?_; rintro e w1 ⟨rfl, hx1⟩
        have HB1 := Lib.hid (HB.out.ext hx1)
        have HR := Lib.hid (xw_end (f := range) (c := 3) (u := .slice none 0 0) HB1.out (HX.out.ext hx1) (HK.out.trans (XKp.of_ext hx1)) (RErrIs.code (by decide)) hbw)
        obtain ⟨g0, g1, g2, g3⟩ := HB1.out.res
        go_wp2
        obtain ⟨y0, y1⟩ := res_cells g0 g1 (c := 3) (.slice none 0 0)
        exact bodyPost_ret (v := .agg #[.int .i64 3, .slice none 0 0]) (by simp [results, Tryz.results27, go_sem, y0, y1]) rfl ⟨3, .slice none 0 0, rfl, by rw [HL.out]; exact HR.out.1, HR.out.2.1, by rw [HF.out]; exact HR.out.2.2⟩
      · by_cases h4 : 15 < k
        · have HF : Hid (crF v k = range) := by show _ = _; unfold crF; rw [if_neg (by unfold riOk; omega)]
          have HL : Hid (crL l v k = l) := by show _ = _; unfold crL; rw [if_neg (by unfold riOk; omega)]
          -- HF, HL
          have hbw : b < w.heap.size := h.lt
          have A0 : Ext w (w.alloc (.cells #[.int .i64 0, .slice none 0 0] 34)) := (Ext.refl w).alloc _
          have HX := Lib.hid (h.ext A0)
          have HB := Lib.hid (RBox.new w)
          have HK := Lib.hid (XKp.of_ext (b := b) (B := B) A0)
          clear A0 h
          go_enter Tryz.func27, Tryz.ntmps27
          go_wp2_with fail
          refine (fail_any 3 _).mono ?_; rintro e w1 ⟨rfl, hx1⟩
          have HB1 := Lib.hid (HB.out.ext hx1)
          have HR := Lib.hid (xw_end (f := range) (c := 3) (u := .slice none 0 0) HB1.out (HX.out.ext hx1) (HK.out.trans (XKp.of_ext hx1)) (RErrIs.code (by decide)) hbw)
          obtain ⟨g0, g1, g2, g3⟩ := HB1.out.res
          go_wp2
          obtain ⟨y0, y1⟩ := res_cells g0 g1 (c := 3) (.slice none 0 0)
          exact bodyPost_ret (v := .agg #[.int .i64 3, .slice none 0 0]) (by simp [results, Tryz.results27, go_sem, y0, y1]) rfl ⟨3, .slice none 0 0, rfl, by rw [HL.out]; exact HR.out.1, HR.out.2.1, by rw [HF.out]; exact HR.out.2.2⟩
        · obtain ⟨V, rfl⟩ : ∃ V : Nat, v = (V : Int) := ⟨v.toNat, by omega⟩
          obtain ⟨K, rfl⟩ : ∃ K : Nat, k = (K : Int) := ⟨k.toNat, by omega⟩
          have hF : crF (V : Int) (K : Int) = none := by unfold crF; rw [if_pos (by unfold riOk; omega)]
          have hL : crL l (V : Int) (K : Int) = l ++ riL V K := by unfold crL; rw [if_pos (by unfold riOk; omega)]; rfl
          rw [hF, hL]
          obtain ⟨q, hq⟩ : ∃ q, V / 2 ^ K = q := ⟨_, rfl⟩
          have i1 : (V : Int) / 2 ^ K = (q : Int) := by rw [← hq]; simp
          have i2 : IntKind.u64.wrap (K : Int) = (K : Int) := by rw [IntKind.wrap_u64]; omega
          have i3 : (0 : Int) ≤ (K : Int) ∧ (K : Int) ≤ 64 := by omega
          have hqV : q ≤ V := by rw [← hq]; exact Nat.div_le_self _ _
          have i4 : IntKind.i64.wrap (q : Int) = (q : Int) := by rw [IntKind.wrap_i64]; omega
          have UF := Lib.hid (fun (w' : World) (j : Nat) (h' : XwAt w' b B (l ++ bsOf (2 ^ j - 1) j)) (hj : j ≤ 24) => xwput_yes b B 1 1 (l ++ bsOf (2 ^ j - 1) j) w' h' (by rw [List.length_append, bsOf_length]; omega) (by decide) (by decide))
          have HQ := Lib.hid hq
          have hM : 2 ^ K ≤ 2 ^ 15 := Nat.pow_le_pow_right (by decide) (by omega)
          have hM0 : 1 ≤ 2 ^ K := Nat.two_pow_pos K
          have hand := and_mask V K (by omega) (by omega)
          have hrl : V % 2 ^ K < 2 ^ K := Nat.mod_lt _ (Nat.two_pow_pos K)
          have HMd : Hid (bsOf (V % 2 ^ K) K = bsOf V K) := bsOf_mod V K
          have U31 := Lib.hid (fun (w' : World) (h' : XwAt w' b B (l ++ bsOf (2 ^ 24 - 1) 24)) => xwput_yes b B V 31 (l ++ bsOf (2 ^ 24 - 1) 24) w' h' (by rw [List.length_append, bsOf_length]; omega) (by omega) (by omega))
          have UF0 := Lib.hid (fun (w' : World) (h' : XwAt w' b B (l ++ bsOf (2 ^ q - 1) q)) (hj : q < 24) => xwput_yes b B 0 1 (l ++ bsOf (2 ^ q - 1) q) w' h' (by rw [List.length_append, bsOf_length]; omega) (by decide) (by decide))
          have UK := Lib.hid (fun (w' : World) (h' : XwAt w' b B (l ++ bsOf (2 ^ q - 1) q ++ [false])) (hj : q < 24) => xwput_yes b B (V % 2 ^ K) K (l ++ bsOf (2 ^ q - 1) q ++ [false]) w' h' (by rw [List.length_append, List.length_append, bsOf_length]; simp; omega) hrl (by omega))
          obtain ⟨M, hMM⟩ : ∃ M, 2 ^ K = M := ⟨_, rfl⟩
          obtain ⟨M1, hM1⟩ : ∃ M1, M - 1 = M1 := ⟨_, rfl⟩
          obtain ⟨Y, hY⟩ : ∃ Y, V % M = Y := ⟨_, rfl⟩
          have jp : (2 : Int) ^ K = (M : Int) := by rw [← hMM]; simp
          have i1' : (V : Int) / (M : Int) = (q : Int) := by rw [← jp]; exact i1
          rw [hMM] at hM hM0 hand UK HMd
          rw [hM1, hY] at hand
          rw [hY] at UK HMd
          have j2 : IntKind.i64.wrap (1 * 2 ^ K) = (M : Int) := by rw [jp, IntKind.wrap_i64]; omega
          have j3 : IntKind.i64.wrap (M : Int) = (M : Int) := by rw [IntKind.wrap_i64]; omega
          have j4 : IntKind.i64.wrap ((M : Int) - 1) = (M1 : Int) := by rw [IntKind.wrap_i64]; omega
          clear hF hL hq hMM hM1 hY hrl hqV hM hM0
          have hbw : b < w.heap.size := h.lt
          have A0 : Ext w (w.alloc (.cells #[.int .i64 0, .slice none 0 0] 34)) := (Ext.refl w).alloc _
          have HX := Lib.hid (h.ext A0)
          have HB := Lib.hid (RBox.new w)
          have HK := Lib.hid (XKp.of_ext (b := b) (B := B) A0)
          clear A0 h
          go_enter Tryz.func27, Tryz.ntmps27
          go_wp2_with fail
          go_loopw [8] (fun iv wr => ∃ j : Nat, (j ≤ q ∧ j ≤ 24) ∧ iv = .int .i64 (j : Int) ∧ Hid (XwAt wr b B (l ++ bsOf (2 ^ j - 1) j)) ∧ Hid (XKp b B w wr) ∧ Hid (RBox wr w.heap.size)) (fun iv _ => 24 - (intOf iv).toNat)
          case atStart => exact ⟨0, ⟨Nat.zero_le _, Nat.zero_le _⟩, rfl, by show XwAt _ _ _ _; rw [show bsOf (2 ^ 0 - 1) 0 = [] from rfl, List.append_nil]; exact HX.out, HK.out, HB.out⟩
          case round =>
            clear HX HK HB
            obtain ⟨j, ⟨hj1, hj2⟩, rfl, HX, HK, HB⟩ := hrel
            by_cases h24 : j = 24
            · subst h24
              by_cases hjq : 24 < q
              · have t1 : (24 : Int) < (q : Int) := by omega
                have t2 : ¬ (q : Int) < 24 := by omega
                go_wp2_with fail
                refine (U31.out _ HX.out).mono ?_; rintro e w3 ⟨c3, u3, rfl, x3, k3, e3⟩
                obtain ⟨rfl, rfl⟩ := e3
                have HXZ := Lib.hid x3
                have HBZ := Lib.hid (HB.out.xkp k3 (by omega))
                have HKZ := Lib.hid (HK.out.trans k3)
                clear x3 k3
                -- in hand: wz, HXZ HKZ HBZ: 'return kinref.Err{}'
                have HR := Lib.hid (xw_end (f := none) (c := 0) (u := .slice none 0 0) HBZ.out HXZ.out HKZ.out ⟨rfl, rfl⟩ hbw)
                obtain ⟨g0, g1, g2, g3⟩ := HBZ.out.res
                go_wp2
                obtain ⟨y0, y1⟩ := res_cells g0 g1 (c := 0) (.slice none 0 0)
                refine bodyPost_ret (v := .agg #[.int .i64 0, .slice none 0 0]) (by simp [results, Tryz.results27, go_sem, y0, y1]) rfl ⟨0, .slice none 0 0, rfl, ?_, HR.out.2.1, HR.out.2.2⟩
                have er : riL V K = bsOf (2 ^ 24 - 1) 24 ++ bsOf V 31 := by unfold riL; rw [HQ.out, if_neg (by omega)]
                rw [er, ← List.append_assoc]
                exact HR.out.1
              · obtain rfl : q = 24 := by omega
                go_wp2_with fail
                refine (U31.out _ HX.out).mono ?_; rintro e w3 ⟨c3, u3, rfl, x3, k3, e3⟩
                obtain ⟨rfl, rfl⟩ := e3
                have HXZ := Lib.hid x3
                have HBZ := Lib.hid (HB.out.xkp k3 (by omega))
                have HKZ := Lib.hid (HK.out.trans k3)
                clear x3 k3
                -- in hand: wz, HXZ HKZ HBZ: 'return kinref.Err{}'
                have HR := Lib.hid (xw_end (f := none) (c := 0) (u := .slice none 0 0) HBZ.out HXZ.out HKZ.out ⟨rfl, rfl⟩ hbw)
                obtain ⟨g0, g1, g2, g3⟩ := HBZ.out.res
                go_wp2
                obtain ⟨y0, y1⟩ := res_cells g0 g1 (c := 0) (.slice none 0 0)
                refine bodyPost_ret (v := .agg #[.int .i64 0, .slice none 0 0]) (by simp [results, Tryz.results27, go_sem, y0, y1]) rfl ⟨0, .slice none 0 0, rfl, ?_, HR.out.2.1, HR.out.2.2⟩
                have er : riL V K = bsOf (2 ^ 24 - 1) 24 ++ bsOf V 31 := by unfold riL; rw [HQ.out, if_neg (by omega)]
                rw [er, ← List.append_assoc]
                exact HR.out.1
            · have t0 : (j : Int) < 24 := by omega
              by_cases hjq : j < q
              · have t1 : (j : Int) < (q : Int) := by omega
                go_wp2_with fail
                refine (UF.out _ j HX.out hj2).mono ?_; rintro e w3 ⟨c3, u3, rfl, x3, k3, e3⟩
                have HXZ : Hid (XwAt w3 b B (l ++ bsOf (2 ^ (j + 1) - 1) (j + 1))) := by show XwAt _ _ _ _; rw [bsOf_ones, ← List.append_assoc]; exact x3
                have HBZ := Lib.hid (HB.out.xkp k3 (by omega))
                have HKZ := Lib.hid (HK.out.trans k3)
                clear x3 k3 e3
                go_wp2
                go_roundw
                case rel => exact ⟨j + 1, ⟨by omega, by omega⟩, by go_num, HXZ.out, HKZ.out, HBZ.out⟩
                case measure => simp [intOf]; omega
              · obtain rfl : j = q := by omega
                have hq24 : j < 24 := by omega
                go_wp2_with fail
                refine (UF0.out _ HX.out hq24).mono ?_; rintro e w3 ⟨c3, u3, rfl, x3, k3, e3⟩
                have HX3 : Hid (XwAt w3 b B (l ++ bsOf (2 ^ j - 1) j ++ [false])) := x3
                have HB3 := Lib.hid (HB.out.xkp k3 (by omega))
                have HK3 := Lib.hid (HK.out.trans k3)
                clear x3 k3 e3
                go_wp2_with fail
                refine (UK.out _ HX3.out hq24).mono ?_; rintro e w4 ⟨c3, u3, rfl, x3, k3, e3⟩
                have HXZ := Lib.hid x3
                have HBZ := Lib.hid (HB3.out.xkp k3 (by omega))
                have HKZ := Lib.hid (HK3.out.trans k3)
                clear x3 k3 e3
                -- in hand: wz, HXZ HKZ HBZ: 'return kinref.Err{}'
                have HR := Lib.hid (xw_end (f := none) (c := 0) (u := .slice none 0 0) HBZ.out HXZ.out HKZ.out ⟨rfl, rfl⟩ hbw)
                obtain ⟨g0, g1, g2, g3⟩ := HBZ.out.res
                go_wp2
                obtain ⟨y0, y1⟩ := res_cells g0 g1 (c := 0) (.slice none 0 0)
                refine bodyPost_ret (v := .agg #[.int .i64 0, .slice none 0 0]) (by simp [results, Tryz.results27, go_sem, y0, y1]) rfl ⟨0, .slice none 0 0, rfl, ?_, HR.out.2.1, HR.out.2.2⟩
                have er : riL V K = bsOf (2 ^ j - 1) j ++ [false] ++ bsOf V K := by unfold riL; rw [HQ.out, if_pos hq24]
                have h3 := HR.out.1
                rw [HMd.out] at h3
                rw [er]
                simp only [List.append_assoc] at h3 ⊢
                exact h3
end Go.Proofs.YtgohlhgapboijaaGreatDoor
