/- (*rac.Encoder).End: its contract over this seat's translation. -/
import Derived.Test.YtpofabebmeickaaDoorZc
namespace Go.Proofs.YtpofabebmeickaaDoor
set_option linter.unusedVariables false
set_option linter.unusedSimpArgs false
open Go.RowKit Go.Extern.Stop Go.Stop Go.Extern

theorem trimE_zero (l : List Nat) : trimE (l ++ [0]) = trimE l := by
  induction l with
  | nil => rfl
  | cons x t ih =>
    show (if x = 0 ∧ trimE (t ++ [0]) = [] then [] else x :: trimE (t ++ [0])) = (if x = 0 ∧ trimE t = [] then [] else x :: trimE t)
    rw [ih]
theorem trimE_last (l : List Nat) {x : Nat} (h : x ≠ 0) : trimE (l ++ [x]) = l ++ [x] := by
  induction l with
  | nil => show (if x = 0 ∧ _ then [] else x :: trimE []) = _; rw [if_neg (fun e => h e.1)]; rfl
  | cons y t ih =>
    show (if y = 0 ∧ trimE (t ++ [x]) = [] then [] else y :: trimE (t ++ [x])) = _
    rw [ih, if_neg (by simp)]
    rfl
theorem trim_take (bs : List Nat) {k : Nat} (hk : k + 1 ≤ bs.length) : bs.take (k + 1) = bs.take k ++ [bs.getD k 0] := by
  rw [List.take_add_one, List.getD_eq_getElem?_getD, List.getElem?_eq_getElem (by omega)]
  rfl
theorem own_shrink {w : World} {B g n cap : Nat} {e : TypeId} {xs : List Value} (h : w.ownsRow B e 1 (.slice (some ⟨g, 0, none⟩) n cap) n xs) {k : Nat} (hk : k ≤ n) : w.ownsRow B e 1 (.slice (some ⟨g, 0, none⟩) k cap) k (xs.take k) := by
  obtain ⟨hl, h | ⟨g', cap', cur, e', hb, hg, h1, h2, hs, ht⟩⟩ := h
  · cases h.1
  · simp only [Value.slice.injEq, Option.some.injEq, Addr.mk.injEq, and_true, true_and] at e'
    obtain ⟨rfl, rfl⟩ := e'
    refine ⟨by rw [List.length_take]; omega, .inr ⟨g, cap, cur, rfl, hb, hg, by omega, h2, hs, ?_⟩⟩
    rw [← ht, List.take_take, Nat.mul_one, Nat.mul_one, Nat.min_eq_left hk]
def zS : ByteArray := ⟨#[0]⟩
theorem own_grw {w w' : World} {base n : Nat} {v : Value} {xs : List Value} (h : w.ownsRow base 5 1 v n xs) (g : w.grownBy w' v.ownBlock) {u : World} (hu : Ext u w) (hb : u.heap.size ≤ base) : Ext u w' :=
  Below.grown hu g hu.size (fun k hk => by have := (h.lt k hk).1; omega)
theorem step_push4 {ops : Array Oper} {o : Oper} {a : Act} {K : Act → World → Prop} {Q : Exit → Act → World → Prop} {X : Prop} {W : World} {base : Nat} (hgd : o.guard = none) (s y : Operand) (t : TypeId)
    (ho : o.op = .call { callee := .builtin .append, args := #[s, y], argTypes := #[t, t] }) (ht : Tryd.prog.underlying t = some (.slice 5))
    (v : Value) (n : Nat) (xs : List Value) (p q r z : Int) (hs : a.eval s = v) (hown : W.ownsRow base 5 1 v n xs) (hx : a.eval y = .slice (some ⟨W.heap.size, 0, none⟩) 4 4) (hb : base ≤ W.heap.size) (hn : n ≤ 1000000000)
    (h : ∀ g cap w', w'.ownsRow base 5 1 (.slice (some ⟨g, 0, none⟩) (n + 4) cap) (n + 4) (xs ++ [.int .u8 p, .int .u8 q, .int .u8 r, .int .u8 z]) → W.grownBy w' v.ownBlock → K (a.put o.dst (.slice (some ⟨g, 0, none⟩) (n + 4) cap)) w') :
    if Region.wanted o (yielded ops a.tmps) = true then Oper.wp Tryd.prog o a ((W.alloc (.cells #[.int .u8 p, .int .u8 q, .int .u8 r, .int .u8 z] 5)).drew) K Q else X := by
  obtain ⟨i0, hi, hz0, hz1, hz2⟩ := info_parts infoU8
  have hown' : ((W.alloc (.cells #[.int .u8 p, .int .u8 q, .int .u8 r, .int .u8 z] 5)).drew).ownsRow base 5 1 v n xs := (hown.alloc _).drew
  refine step_append_lies _ hgd s y t ho base 5 i0 (.int .u8 0) 1 1 ht hi hz0 hz1 hz2 rfl (by decide) v n xs hs hown' ⟨W.heap.size, 0, none⟩ 4 4 [.int .u8 p, .int .u8 q, .int .u8 r, .int .u8 z] hx rfl (World.news_of_block (cs := #[.int .u8 p, .int .u8 q, .int .u8 r, .int .u8 z]) (t := 5) (fr := (0, 0)) (heap_alloc_new W _)) ?_ (by decide) (by unfold maxLen; omega) (by omega) (by simp; omega) (W.heap.size + 1) (by simp) ?_
  · intro u hu
    simp only [List.mem_cons, List.not_mem_nil, or_false] at hu
    rcases hu with rfl | rfl | rfl | rfl <;> rfl
  intro g cap w' h1 h2 h3 _
  refine h g cap w' h1 ⟨h2.os, h2.tape, h2.output, Nat.le_trans (by simp) h2.size, fun k hk hne => ?_⟩
  exact (h2.block k (by simp; omega) hne).trans (Below.heap_alloc W _ k hk)
def EePost (w : World) (s : Ec) (e : Ending) (w' : World) : Prop := ∃ g k cap, e = .returned (.slice (some ⟨g, 0, none⟩) k cap) ∧ (trimE (allE s)).length = k ∧ w'.ownsRow w.heap.size 5 1 (.slice (some ⟨g, 0, none⟩) k cap) k (byC (trimE (allE s))) ∧ Ext w w'
theorem ee_end {w w8 : World} {g M cap : Nat} {s : Ec} (h : w8.ownsRow w.heap.size 5 1 (.slice (some ⟨g, 0, none⟩) M cap) M (byC (allE s))) (hx : Ext w w8) (h1 : trimE (allE s) = (allE s).take (trimE (allE s)).length) (h2 : (trimE (allE s)).length ≤ M) : EePost w s (.returned (.slice (some ⟨g, 0, none⟩) (trimE (allE s)).length cap)) w8 := by
  refine ⟨g, _, cap, rfl, rfl, ?_, hx⟩
  have := own_shrink h h2
  have e : (byC (allE s)).take (trimE (allE s)).length = byC (trimE (allE s)) := by
    unfold byC
    rw [← List.map_take, ← h1]
  rw [e] at this
  exact this
theorem ee_all {w w8 : World} {v : Value} {n : Nat} {E L : List Nat} {p q r z : Nat} (h : w8.ownsRow w.heap.size 5 1 v (n + 4) (byC E ++ [.int .u8 (p : Int), .int .u8 (q : Int), .int .u8 (r : Int), .int .u8 (z : Int)])) (hL : L = E ++ [p, q, r, z]) : w8.ownsRow w.heap.size 5 1 v (n + 4) (byC L) := by
  have e : byC L = byC E ++ [.int .u8 (p : Int), .int .u8 (q : Int), .int .u8 (r : Int), .int .u8 (z : Int)] := by rw [hL]; simp [byC]
  rw [e]
  exact h
theorem Bys_n {w : World} {base n : Nat} {v : Value} {bs : List Nat} (h : w.ownsRow base 5 1 v n (byC bs)) (hn : bs.length = n) (hb : ∀ x ∈ bs, x < 256) (hl : n ≤ 10000000) : Bys w v bs := by
  subst hn
  exact Bys.of_owns h hb (by omega)
theorem allE_lt {N : Nat} {s : Ec} (hk : okE N s) : ∀ x ∈ allE s, x < 256 := by
  obtain ⟨k1, k2, k3, k4, k5⟩ := hk
  intro x hx
  unfold allE at hx
  rcases List.mem_append.1 hx with hx | hx
  · rcases List.mem_append.1 hx with hx | hx
    · rcases List.mem_append.1 hx with hx | hx
      · exact k5 x hx
      · exact hdE_lt s x hx
    · rw [List.eq_of_mem_replicate hx]; decide
  · simp only [List.mem_cons, List.not_mem_nil, or_false] at hx
    rcases hx with rfl | rfl | rfl | rfl <;> omega
end Go.Proofs.YtpofabebmeickaaDoor
