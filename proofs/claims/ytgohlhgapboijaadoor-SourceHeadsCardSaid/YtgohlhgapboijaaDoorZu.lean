/- Contracts of this seat: Ucr, Ubs, Sug. -/
import Derived.Test.YtgohlhgapboijaaDoorZd
import Derived.Test.YtgohlhgapboijaaDoorZb
import Derived.Laws.AppendOwnNone
import Derived.OwnWalk
import Derived.Test.YtgohlhgapboijaaDoorZl
/- The sum of bytes (CRC-32), bit by bit and by halves of bytes; what a change of a byte does: plain. -/
namespace Go.Proofs.YtgohlhgapboijaaDoor
set_option linter.unusedVariables false
set_option linter.unusedSimpArgs false
open Go.RowKit

/-- one bit of the sum -/
def r1 (c : Nat) : Nat := if c % 2 = 1 then (c / 2) ^^^ 3988292384 else c / 2
def rN : Nat → Nat → Nat
  | 0, c => c
  | k + 1, c => rN k (r1 c)
theorem tb0 (c : Nat) : c.testBit 0 = decide (c % 2 = 1) := Nat.testBit_zero c
theorem xor_half (a b : Nat) : (a ^^^ b) / 2 = a / 2 ^^^ b / 2 := by
  apply Nat.eq_of_testBit_eq
  intro i
  simp only [Nat.testBit_div_two, Nat.testBit_xor]
theorem xor_par (a b : Nat) : (a ^^^ b) % 2 = (a % 2 + b % 2) % 2 := by
  have h := Nat.testBit_xor a b 0
  rw [tb0, tb0, tb0] at h
  have ha : a % 2 = 0 ∨ a % 2 = 1 := by omega
  have hb : b % 2 = 0 ∨ b % 2 = 1 := by omega
  have hc : (a ^^^ b) % 2 = 0 ∨ (a ^^^ b) % 2 = 1 := by omega
  rcases ha with ha | ha <;> rcases hb with hb | hb <;> rcases hc with hc | hc <;> rw [ha, hb, hc] at h <;> simp_all
theorem r1_xor (a b : Nat) : r1 (a ^^^ b) = r1 a ^^^ r1 b := by
  have hp := xor_par a b
  have hh := xor_half a b
  unfold r1
  have ha : a % 2 = 0 ∨ a % 2 = 1 := by omega
  have hb : b % 2 = 0 ∨ b % 2 = 1 := by omega
  rcases ha with ha | ha <;> rcases hb with hb | hb <;> rw [ha, hb] at hp <;> simp only [hp, ha, hb, hh] <;> simp only [Nat.reduceAdd, Nat.reduceMod, Nat.zero_add, if_true, if_false, Nat.zero_ne_one, reduceIte]
  · rw [Nat.xor_assoc]
  · rw [Nat.xor_assoc, Nat.xor_assoc, Nat.xor_comm 3988292384]
  · rw [Nat.xor_assoc, ← Nat.xor_assoc 3988292384, Nat.xor_comm 3988292384 (b / 2), Nat.xor_assoc (b / 2), Nat.xor_self, Nat.xor_zero]
theorem rN_xor (k a b : Nat) : rN k (a ^^^ b) = rN k a ^^^ rN k b := by
  induction k generalizing a b with
  | zero => rfl
  | succ k ih => simp only [rN]; rw [r1_xor, ih]
theorem r1_lt {c : Nat} (h : c < 4294967296) : r1 c < 4294967296 := by
  unfold r1
  split
  · exact Nat.xor_lt_two_pow (n := 32) (by omega) (by decide)
  · omega
theorem rN_lt (k : Nat) {c : Nat} (h : c < 4294967296) : rN k c < 4294967296 := by
  induction k generalizing c with
  | zero => exact h
  | succ k ih => exact ih (r1_lt h)
theorem rN_mul (k h : Nat) : rN k (2 ^ k * h) = h := by
  induction k with
  | zero => simp [rN]
  | succ k ih =>
    simp only [rN]
    have e : r1 (2 ^ (k + 1) * h) = 2 ^ k * h := by
      have e2 : 2 ^ (k + 1) * h = 2 * (2 ^ k * h) := by rw [Nat.pow_succ, Nat.mul_comm (2 ^ k) 2, Nat.mul_assoc]
      rw [e2]
      generalize 2 ^ k * h = m
      unfold r1
      rw [if_neg (by omega)]
      omega
    rw [e, ih]
theorem split_xor (k c : Nat) : c = (2 ^ k * (c / 2 ^ k)) ^^^ (c % 2 ^ k) := by
  have hl : c % 2 ^ k < 2 ^ k := Nat.mod_lt _ (Nat.two_pow_pos k)
  apply Nat.eq_of_testBit_eq
  intro i
  rw [Nat.testBit_xor, Nat.testBit_two_pow_mul, Nat.testBit_mod_two_pow, Nat.testBit_div_two_pow]
  by_cases h : i < k
  · simp [h, show ¬ k ≤ i by omega]
  · simp [h, show k ≤ i by omega, show i - k + k = i by omega]
/-- four bits at once -/
theorem rN_nib (c : Nat) : rN 4 c = (c / 16) ^^^ rN 4 (c % 16) := by
  have h := split_xor 4 c
  have h2 : rN 4 c = rN 4 ((2 ^ 4 * (c / 2 ^ 4)) ^^^ (c % 2 ^ 4)) := by rw [← h]
  rw [h2, rN_xor, rN_mul]
theorem rN_add (a b c : Nat) : rN (a + b) c = rN b (rN a c) := by
  induction a generalizing c with
  | zero => simp [rN]
  | succ a ih => rw [show a + 1 + b = (a + b) + 1 by omega]; simp only [rN]; exact ih _
theorem r1_inj {a b : Nat} (ha : a < 4294967296) (hb : b < 4294967296) (h : r1 a = r1 b) : a = b := by
  have key : ∀ x, x < 2147483648 → (x ^^^ 3988292384).testBit 31 = true ∧ x.testBit 31 = false := fun x hx => by
    have h1 : x.testBit 31 = false := Nat.testBit_lt_two_pow hx
    refine ⟨?_, h1⟩
    rw [Nat.testBit_xor, h1]
    decide
  unfold r1 at h
  have pa : a % 2 = 0 ∨ a % 2 = 1 := by omega
  have pb : b % 2 = 0 ∨ b % 2 = 1 := by omega
  have ka := key (a / 2) (by omega)
  have kb := key (b / 2) (by omega)
  rcases pa with pa | pa <;> rcases pb with pb | pb <;> simp only [pa, pb, if_true, if_false, Nat.zero_ne_one, reduceIte] at h
  · omega
  · rw [h, kb.1] at ka; exact absurd ka.2 (by decide)
  · rw [← h, ka.1] at kb; exact absurd kb.2 (by decide)
  · have h2 := congrArg (· ^^^ 3988292384) h
    simp only [Nat.xor_assoc, Nat.xor_self, Nat.xor_zero] at h2
    omega
theorem rN_inj (k : Nat) {a b : Nat} (ha : a < 4294967296) (hb : b < 4294967296) (h : rN k a = rN k b) : a = b := by
  induction k generalizing a b with
  | zero => exact h
  | succ k ih => exact r1_inj ha hb (ih (r1_lt ha) (r1_lt hb) h)
/-- a byte taken into the sum -/
def stpC (c x : Nat) : Nat := rN 8 (c ^^^ x)
def crcF (c : Nat) (bs : List Nat) : Nat := bs.foldl stpC c
def crc (bs : List Nat) : Nat := crcF 4294967295 bs ^^^ 4294967295
theorem stpC_lt {c x : Nat} (h : c < 4294967296) (hx : x < 256) : stpC c x < 4294967296 := rN_lt 8 (Nat.xor_lt_two_pow (n := 32) h (by omega))
theorem crcF_lt : ∀ {bs : List Nat} {c : Nat}, c < 4294967296 → (∀ x ∈ bs, x < 256) → crcF c bs < 4294967296
  | [], _, h, _ => h
  | x :: bs, c, h, hb => crcF_lt (bs := bs) (stpC_lt h (hb x (by simp))) (fun y hy => hb y (by simp [hy]))
theorem crc_lt {bs : List Nat} (hb : ∀ x ∈ bs, x < 256) : crc bs < 4294967296 := Nat.xor_lt_two_pow (n := 32) (crcF_lt (by decide) hb) (by decide)
theorem stpC_inj {c d x : Nat} (hc : c < 4294967296) (hd : d < 4294967296) (hx : x < 256) (h : stpC c x = stpC d x) : c = d := by
  have h1 := rN_inj 8 (Nat.xor_lt_two_pow (n := 32) hc (by omega)) (Nat.xor_lt_two_pow (n := 32) hd (by omega)) h
  have h2 := congrArg (· ^^^ x) h1
  simpa only [Nat.xor_assoc, Nat.xor_self, Nat.xor_zero] using h2
theorem stpC_byte {c x y : Nat} (hc : c < 4294967296) (hx : x < 256) (hy : y < 256) (h : stpC c x = stpC c y) : x = y := by
  have h1 := rN_inj 8 (Nat.xor_lt_two_pow (n := 32) hc (by omega)) (Nat.xor_lt_two_pow (n := 32) hc (by omega)) h
  have h2 := congrArg (c ^^^ ·) h1
  simpa only [← Nat.xor_assoc, Nat.xor_self, Nat.zero_xor] using h2
theorem crcF_inj : ∀ {bs : List Nat} {c d : Nat}, c < 4294967296 → d < 4294967296 → (∀ x ∈ bs, x < 256) → crcF c bs = crcF d bs → c = d
  | [], _, _, _, _, _, h => h
  | x :: bs, c, d, hc, hd, hb, h => stpC_inj hc hd (hb x (by simp)) (crcF_inj (bs := bs) (stpC_lt hc (hb x (by simp))) (stpC_lt hd (hb x (by simp))) (fun y hy => hb y (by simp [hy])) h)
theorem crcF_app (c : Nat) (a b : List Nat) : crcF c (a ++ b) = crcF (crcF c a) b := by simp [crcF]
/-- bytes of which one is another have another sum -/
theorem crc_turned {p q : List Nat} {x y : Nat} (hp : ∀ z ∈ p, z < 256) (hq : ∀ z ∈ q, z < 256) (hx : x < 256) (hy : y < 256) (hne : x ≠ y) : crc (p ++ x :: q) ≠ crc (p ++ y :: q) := by
  intro h
  have h2 := congrArg (· ^^^ 4294967295) h
  simp only [crc, Nat.xor_assoc, Nat.xor_self, Nat.xor_zero] at h2
  rw [crcF_app, crcF_app] at h2
  have hc := crcF_lt (bs := p) (c := 4294967295) (by decide) hp
  exact hne (stpC_byte hc hx hy (crcF_inj (bs := q) (stpC_lt hc hx) (stpC_lt hc hy) hq h2))
/-- the program's way: four bits at a time, by a table -/
def nib (r : Nat) : Nat := rN 4 r
theorem stpC_nib (c x : Nat) : stpC c x = (((c ^^^ x) / 16) ^^^ nib ((c ^^^ x) % 16)) / 16 ^^^ nib ((((c ^^^ x) / 16) ^^^ nib ((c ^^^ x) % 16)) % 16) := by
  unfold stpC nib
  rw [show (8 : Nat) = 4 + 4 from rfl, rN_add, rN_nib (c ^^^ x)]
  exact rN_nib _
theorem nib_lt {r : Nat} (h : r < 16) : nib r < 4294967296 := rN_lt 4 (by omega)
theorem nib_tab : (List.range 16).map (fun r => (nib r : Int)) = [0, 498536548, 997073096, 651767980, 1994146192, 1802195444, 1303535960, 1342533948, 3988292384, 4027552580, 3604390888, 3412177804, 2607071920, 2262029012, 2685067896, 3183342108] := by decide +kernel
/-- four bytes of a number, the highest first -/
def be4 (s : Nat) : List Nat := [s / 16777216, s / 65536 % 256, s / 256 % 256, s % 256]
def be3 (s : Nat) : List Nat := [s / 65536, s / 256 % 256, s % 256]
def val : List Nat → Nat := fun l => l.foldl (fun v x => v * 256 + x) 0
theorem val_be4 {s : Nat} : val (be4 s) = s := by simp only [val, be4, List.foldl_cons, List.foldl_nil]; omega
theorem be4_lt {s : Nat} (h : s < 4294967296) : ∀ x ∈ be4 s, x < 256 := by intro x hx; simp only [be4, List.mem_cons, List.not_mem_nil, or_false] at hx; omega
theorem be3_lt {s : Nat} (h : s < 16777216) : ∀ x ∈ be3 s, x < 256 := by intro x hx; simp only [be3, List.mem_cons, List.not_mem_nil, or_false] at hx; omega
end Go.Proofs.YtgohlhgapboijaaDoor

/- Bytes cut, and put behind bytes of the call's own; unit.Size, Fill. -/
namespace Go.Proofs.YtgohlhgapboijaaDoor
set_option linter.unusedVariables false
set_option linter.unusedSimpArgs false
open Go.RowKit Go.Extern.Stop Go.Stop Go.Extern

/-- a slice that is nil, or has an address -/
def Plain (v : Value) : Prop := v = .slice none 0 0 ∨ ∃ ad n c, v = .slice (some ad) n c
theorem Plain.of_owns {w : World} {base n : Nat} {v : Value} {e : TypeId} {s : Nat} {xs : List Value} (h : w.ownsRow base e s v n xs) : Plain v := by
  rcases h.2 with ⟨rfl, -⟩ | ⟨g, cap, cur, rfl, -⟩
  · exact .inl rfl
  · exact .inr ⟨_, _, _, rfl⟩
theorem Bys.cut {w : World} {g off n cap : Nat} {bs : List Nat} (h : Bys w (.slice (some ⟨g, off, none⟩) n cap) bs) {lo hi : Nat} (h1 : lo ≤ hi) (h2 : hi ≤ n) : Bys w (.slice (some ⟨g, off + lo, none⟩) (hi - lo) (cap - lo)) ((bs.drop lo).take (hi - lo)) := by
  have hl := h.len
  have hc := h.caps
  have hlen : ((bs.drop lo).take (hi - lo)).length = hi - lo := by rw [List.length_take, List.length_drop]; omega
  refine ⟨⟨some ⟨g, off + lo, none⟩, cap - lo, by rw [hlen], by rw [hlen]; omega, by omega, fun _ => ⟨_, _, rfl⟩, fun g' off' ha j u hu => ?_⟩, fun x hx => h.2.1 x (List.mem_of_mem_drop (List.mem_of_mem_take hx)), by rw [hlen]; have := h.2.2; omega⟩
  simp only [Option.some.injEq, Addr.mk.injEq, and_true] at ha
  obtain ⟨rfl, rfl⟩ := ha
  rw [List.getElem?_map] at hu
  obtain ⟨x, hx, rfl⟩ := Option.map_eq_some_iff.1 hu
  rw [List.getElem?_take] at hx
  split at hx
  · rw [List.getElem?_drop] at hx
    have := h.at hx
    rwa [Nat.add_assoc]
  · cases hx
theorem own_grow {w w' : World} {base n : Nat} {v : Value} {xs : List Value} (h : w.ownsRow base 5 1 v n xs) (g : w.grownBy w' v.ownBlock) {u : World} (hu : Ext u w) (hb : u.heap.size ≤ base) : Ext u w' :=
  Below.grown hu g (Nat.le_trans hu.size (Nat.le_refl _)) (fun k hk => by have := (h.lt k hk).1; omega)
/-- bytes put behind bytes of the call's own -/
theorem app_bys {ops : Array Oper} {rest : List Oper} {o : Oper} {a : Act} {Q : Exit → Act → World → Prop} {W : World} {base : Nat} (hgd : o.guard = none) (s y : Operand) (t : TypeId)
    (ho : o.op = .call { callee := .builtin .append, args := #[s, y], argTypes := #[t, t] }) (ht : Tryd.prog.underlying t = some (.slice 5))
    (v : Value) (n : Nat) (xs ys : List Nat) (u : Value) (hs : a.eval s = v) (hown : W.ownsRow base 5 1 v n (byC xs)) (hy : a.eval y = u) (hu : Bys W u ys) (hp : Plain u) (hb : base ≤ W.heap.size) (hn : 0 < n) (hm : n + ys.length ≤ 1000000000)
    (h : ∀ g cap w', w'.ownsRow base 5 1 (.slice (some ⟨g, 0, none⟩) (n + ys.length) cap) (n + ys.length) (byC (xs ++ ys)) → W.grownBy w' v.ownBlock → wpList Tryd.prog ops Q rest (a.put o.dst (.slice (some ⟨g, 0, none⟩) (n + ys.length) cap)) w') :
    wpList Tryd.prog ops Q (o :: rest) a W := by
  obtain ⟨i0, hi, hz0, hz1, hz2⟩ := info_parts infoU8
  have hbc : byC (xs ++ ys) = byC xs ++ byC ys := by simp [byC]
  rcases hp with rfl | ⟨ad, m, c, rfl⟩
  · have hl := hu.len
    have hnil : ys = [] := List.eq_nil_of_length_eq_zero hl.symm
    subst hnil
    obtain ⟨g, cap, rfl⟩ : ∃ g cap, v = .slice (some ⟨g, 0, none⟩) n cap := by
      rcases hown.2 with ⟨-, h0⟩ | ⟨g, cap, cur, e, -⟩
      · omega
      · exact ⟨g, cap, e⟩
    refine wpList_append_own_none hgd s y t ho base 5 i0 1 ht hi _ n (byC xs) hs hown hy ?_
    have := h g cap W (by simpa using hown) (World.grownBy.refl _ _)
    simpa using this
  · have hl := hu.len
    subst hl
    have hnews : ∀ j u, (byC ys)[j]? = some u → W.cell? (ad.add j) = some u := by
      intro j u hj
      obtain ⟨a', cap', e, h1, h2, h3, h4⟩ := hu.1
      simp only [Value.slice.injEq] at e
      obtain ⟨e1, -, -⟩ := e
      have hj0 : 0 < ys.length := by
        unfold byC at hj
        rw [List.getElem?_map] at hj
        obtain ⟨x, hx, -⟩ := Option.map_eq_some_iff.1 hj
        have := (List.getElem?_eq_some_iff.1 hx).1
        omega
      obtain ⟨g, off, e2⟩ := h3 hj0
      rw [← e1] at e2
      obtain rfl := Option.some.inj e2
      have hadd : (⟨g, off, none⟩ : Addr).add j = ⟨g, off + j, none⟩ := by unfold Addr.add; split <;> simp_all
      rw [hadd]
      exact h4 g off e1.symm j u hj
    refine wpList_append_own _ hgd s y t ho base 5 i0 (.int .u8 0) 1 1 ht hi hz0 hz1 hz2 rfl (by decide) v n (byC xs) hs hown ad ys.length c (byC ys) hy (by rw [byC_length, Nat.mul_one]) hnews (byC_one ys) (by unfold maxLen; omega) (by omega) hb ?_
    intro v' w' h1 h2 _
    obtain ⟨g, cap, rfl⟩ : ∃ g cap, v' = .slice (some ⟨g, 0, none⟩) (n + ys.length) cap := by
      rcases h1.2 with ⟨-, h0⟩ | ⟨g, cap, cur, e, -⟩
      · omega
      · exact ⟨g, cap, e⟩
    exact h g cap w' (by rw [hbc]; exact h1) h2
/-- .. out of a block that was just made -/
theorem app_new {ops : Array Oper} {rest : List Oper} {o : Oper} {a : Act} {Q : Exit → Act → World → Prop} {W : World} {base : Nat} (hgd : o.guard = none) (s y : Operand) (t : TypeId)
    (ho : o.op = .call { callee := .builtin .append, args := #[s, y], argTypes := #[t, t] }) (ht : Tryd.prog.underlying t = some (.slice 5))
    (v : Value) (n : Nat) (xs ys : List Nat) (hs : a.eval s = v) (hown : W.ownsRow base 5 1 v n (byC xs)) (hy : a.eval y = .slice (some ⟨W.heap.size, 0, none⟩) ys.length ys.length) (hl : 0 < ys.length) (hb : base ≤ W.heap.size) (hm : n + ys.length ≤ 1000000000)
    (h : ∀ g cap w', w'.ownsRow base 5 1 (.slice (some ⟨g, 0, none⟩) (n + ys.length) cap) (n + ys.length) (byC (xs ++ ys)) → W.grownBy w' v.ownBlock → wpList Tryd.prog ops Q rest (a.put o.dst (.slice (some ⟨g, 0, none⟩) (n + ys.length) cap)) w') :
    wpList Tryd.prog ops Q (o :: rest) a (W.alloc (.cells (byC ys).toArray 5)) := by
  obtain ⟨i0, hi, hz0, hz1, hz2⟩ := info_parts infoU8
  have hbc : byC (xs ++ ys) = byC xs ++ byC ys := by simp [byC]
  refine wpList_append_own _ hgd s y t ho base 5 i0 (.int .u8 0) 1 1 ht hi hz0 hz1 hz2 rfl (by decide) v n (byC xs) hs (hown.alloc _) ⟨W.heap.size, 0, none⟩ ys.length ys.length (byC ys) hy (by rw [byC_length, Nat.mul_one]) ?_ (byC_one ys) (by unfold maxLen; omega) (by omega) (by simp; omega) ?_
  · intro j u hj
    have hadd : (⟨W.heap.size, 0, none⟩ : Addr).add j = ⟨W.heap.size, j, none⟩ := by unfold Addr.add; split <;> simp_all
    rw [hadd]
    have e : (W.alloc (.cells (byC ys).toArray 5)).heap[W.heap.size]? = some (.cells (byC ys).toArray 5 (0, 0)) := heap_alloc_new W _
    simp only [World.cell?, e]
    simpa using hj
  intro v' w' h1 h2 _
  have g := World.grownBy_alloc W (.cells (byC ys).toArray 5) v.ownBlock
  have hg : W.grownBy w' v.ownBlock := ⟨h2.os.trans g.os, h2.tape.trans g.tape, h2.output.trans g.output, Nat.le_trans g.size h2.size, fun k hk hne => (h2.block k (Nat.lt_of_lt_of_le hk g.size) hne).trans (g.block k hk hne)⟩
  obtain ⟨gg, cap, rfl⟩ : ∃ gg cap, v' = .slice (some ⟨gg, 0, none⟩) (n + ys.length) cap := by
    rcases h1.2 with ⟨-, h0⟩ | ⟨gg, cap, cur, e, -⟩
    · omega
    · exact ⟨gg, cap, e⟩
  exact h gg cap w' (by rw [hbc]; exact h1) hg
/-- bytes that are all nought -/
def zeroB (n : Nat) : List Nat := List.replicate n 0
theorem made_zero (n : Nat) : (madeCells (Value.int .u8 0).cells (n * 1)).toList = byC (zeroB n) := by
  apply List.ext_getElem?
  intro i
  simp only [madeCells, byC, zeroB, Value.cells, Nat.mul_one]
  by_cases hi : i < n
  · simp [hi, Nat.mod_one]
  · simp [hi]
end Go.Proofs.YtgohlhgapboijaaDoor

/- kinlaw15.few of any frames. -/
namespace Go.Proofs.YtgohlhgapboijaaDoor
set_option linter.unusedVariables false
set_option linter.unusedSimpArgs false
open Go.RowKit Go.Extern.Stop Go.Stop Go.Extern

set_option maxRecDepth 20000 in
set_option maxHeartbeats 2000000 in
theorem few15_all (L : List Fr) (v : Value) (w : World) (h : Fms w v L) :
    Calls Tryd.prog 31 #[v] w fun e w' => e = .returned (.bool (pixB L)) ∧ Ext w w' := by
  obtain ⟨a, cap, rfl⟩ := h.form
  obtain ⟨n, hn⟩ : ∃ n, n = L.length := ⟨_, rfl⟩
  have HN := Lib.hid hn
  rw [← hn] at h ⊢
  have AG := Lib.hid h.had
  clear hn
  have r2 := mn2
  go_enter Tryd.func31, Tryd.ntmps31
  go_wp2
  go_loopw [3, 4] (fun sv iv wr => ∃ k : Nat, k ≤ n ∧ k ≤ 40 ∧ iv = .int .i64 k ∧ sv = .int .i64 (pixN L k) ∧ Ext w wr) (fun _ iv _ => n - (intOf iv).toNat)
  case atStart => exact ⟨0, Nat.zero_le _, by omega, rfl, rfl, Ext.refl _⟩
  case round =>
    obtain ⟨k, hk, hk2, rfl, rfl, hE⟩ := hrel
    have b0 := pixN_bound L k
    by_cases hlt : k < n
    · by_cases h40 : k < 40
      · obtain ⟨g, off, rfl⟩ := AG.out (by omega)
        obtain ⟨f, hf⟩ : ∃ f, L[k]? = some f := ⟨_, List.getElem?_eq_getElem (by rw [← HN.out]; exact hlt)⟩
        obtain ⟨ra, rn, rc, c0, c1, c2, c3⟩ := (h.at hf).ext hE
        obtain ⟨ra', rc', e⟩ := c3.form
        simp only [Value.slice.injEq] at e
        obtain ⟨rfl, rfl, rfl⟩ := e
        have HS : Hid (pixN L (k + 1) = pixN L k + min ((f.2.2.length : Nat) : Int) 20001) := by show pixN L k + _ = _; rw [List.getD, hf]; rfl
        have bl : (0 : Int) ≤ (f.2.2.length : Int) := by omega
        clear c3 hf
        revert HS b0 c2 bl
        generalize pixN L k = s
        generalize f.2.2.length = m
        intro b0 c2 HS bl
        have e1 : IntKind.i64.wrap (s + min (m : Int) 20001) = s + min (m : Int) 20001 := by rw [IntKind.wrap_i64]; omega
        go_wp2
        go_roundw
        case rel => exact ⟨k + 1, by omega, by omega, by go_num, by rw [HS.out], hE⟩
        case measure => simp [intOf]; omega
      · have h41 : ¬ n ≤ 40 := by omega
        have HR : Hid (pixB L = false) := by show _ = _; unfold pixB; rw [← HN.out]; simp [h41]
        have k1 : (40 : Int) < (n : Int) := by omega
        clear h41 b0
        go_wp2
        go_ret
        exact ⟨by rw [HR.out]; rfl, hE⟩
    · have h41 : n ≤ 40 := by omega
      have HR : Hid (pixB L = decide (pixN L k ≤ 20000)) := by show _ = _; unfold pixB; rw [← HN.out, show min n 40 = k by omega]; simp [h41]
      have k1 : (n : Int) ≤ 40 := by omega
      revert HR b0
      generalize pixN L k = s
      intro b0 HR
      clear h41
      by_cases hs : s ≤ 20000
      · have t1 : decide (s ≤ 20000) = true := decide_eq_true hs
        go_wp2
        go_ret
        exact ⟨by rw [HR.out, t1]; rfl, hE⟩
      · have t1 : decide (s ≤ 20000) = false := decide_eq_false hs
        go_wp2
        go_ret
        exact ⟨by rw [HR.out, t1]; rfl, hE⟩
theorem pix_small15 {L : List Fr} (h : pixB L = true) : ∀ (q : Nat) (f : Fr), L[q]? = some f → f.2.2.length ≤ 1000000 := fun q f hq => by
  unfold pixB at h
  simp only [Bool.and_eq_true, decide_eq_true_eq] at h
  obtain ⟨h1, h2⟩ := h
  rw [show min L.length 40 = L.length by omega] at h2
  obtain ⟨hlt, -⟩ := List.getElem?_eq_some_iff.1 hq
  have mono : ∀ d, pixN L (q + 1) ≤ pixN L (q + 1 + d) := fun d => by
    induction d with
    | zero => exact Int.le_refl _
    | succ d ih =>
      have e : pixN L (q + 1 + (d + 1)) = pixN L (q + 1 + d) + min (((L.getD (q + 1 + d) (0, 0, [])).2.2.length : Nat) : Int) 20001 := rfl
      omega
  have m1 := mono (L.length - (q + 1))
  rw [show q + 1 + (L.length - (q + 1)) = L.length by omega] at m1
  have m2 : pixN L (q + 1) = pixN L q + min ((f.2.2.length : Nat) : Int) 20001 := by show pixN L q + _ = _; rw [List.getD, hq]; rfl
  have m3 := pixN_bound L q
  omega
theorem few_small {L : List Fr} (h : pixB L = true) : Small L := by
  have h40 : L.length ≤ 40 := by
    unfold pixB at h
    simp only [Bool.and_eq_true, decide_eq_true_eq] at h
    exact h.1
  refine ⟨by omega, fun q => ?_⟩
  by_cases hq : q < L.length
  · exact pix_small15 h q _ (frAt_get hq)
  · unfold frAt
    rw [List.getD, List.getElem?_eq_none (by omega)]
    decide
end Go.Proofs.YtgohlhgapboijaaDoor
