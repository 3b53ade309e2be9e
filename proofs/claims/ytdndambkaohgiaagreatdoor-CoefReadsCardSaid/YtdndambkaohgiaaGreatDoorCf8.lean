/- Calls of a coder as a tree: what any coder keeps of it. -/
import Derived.Test.YtdndambkaohgiaaGreatDoorZj
import Derived.Test.YtdndambkaohgiaaGreatDoorCf6
import Derived.Test.YtdndambkaohgiaaGreatDoorZb
namespace Go.Proofs.YtdndambkaohgiaaGreatDoor
set_option linter.unusedVariables false
set_option linter.unusedSimpArgs false
open Go.RowKit Go.Extern.Stop Go.Stop Go.Extern

inductive Pg (α : Type) where
  | ret (a : α) : Pg α
  | bit (c : Int) (b : Bool) (k : Bool → Pg α) : Pg α
  | fla (b : Bool) (k : Bool → Pg α) : Pg α
def Pg.bind {α β : Type} : Pg α → (α → Pg β) → Pg β
  | .ret a, g => g a
  | .bit c b k, g => .bit c b (fun x => (k x).bind g)
  | .fla b k, g => .fla b (fun x => (k x).bind g)
section
variable {α β σ τ : Type}
def Pg.run (M : Mc σ) : Pg α → Ms σ → α × Ms σ
  | .ret a, s => (a, s)
  | .bit c b k, s => (k (bitM M s c b).1).run M (bitM M s c b).2
  | .fla b k, s => (k (flaM M s b).1).run M (flaM M s b).2
/-- what is told if each bit is told as it was handed -/
def Pg.hand : Pg α → α
  | .ret a => a
  | .bit _ b k => (k b).hand
  | .fla b k => (k b).hand
theorem Pg.run_bind (M : Mc σ) (g : α → Pg β) : ∀ (p : Pg α) (s : Ms σ), (p.bind g).run M s = (g (p.run M s).1).run M (p.run M s).2
  | .ret _, _ => rfl
  | .bit _ _ k, _ => Pg.run_bind M g (k _) _
  | .fla _ k, _ => Pg.run_bind M g (k _) _
theorem Pg.hand_bind (g : α → Pg β) : ∀ (p : Pg α), (p.bind g).hand = (g p.hand).hand
  | .ret _ => rfl
  | .bit _ b k => Pg.hand_bind g (k b)
  | .fla b k => Pg.hand_bind g (k b)
/-- how many bits at most -/
def Pg.dep : Pg α → Nat → Prop
  | .ret _, _ => True
  | .bit _ _ _, 0 => False
  | .bit _ _ k, n + 1 => ∀ x, (k x).dep n
  | .fla _ _, 0 => False
  | .fla _ k, n + 1 => ∀ x, (k x).dep n
theorem Pg.dep_ret (a : α) (n : Nat) : (Pg.ret a).dep n := trivial
theorem Pg.dep_mono : ∀ {p : Pg α} {n m : Nat}, p.dep n → n ≤ m → p.dep m
  | .ret _, _, _, _, _ => trivial
  | .bit _ _ _, n + 1, m + 1, h, k => fun x => Pg.dep_mono (h x) (by omega)
  | .fla _ _, n + 1, m + 1, h, k => fun x => Pg.dep_mono (h x) (by omega)
theorem Pg.dep_bind {g : α → Pg β} {m : Nat} (hg : ∀ a, (g a).dep m) : ∀ {p : Pg α} {n : Nat}, p.dep n → (p.bind g).dep (n + m)
  | .ret _, _, _ => Pg.dep_mono (hg _) (by omega)
  | .bit _ _ _, n + 1, h => by
    rw [show n + 1 + m = (n + m) + 1 by omega]
    exact fun x => Pg.dep_bind hg (h x)
  | .fla _ _, n + 1, h => by
    rw [show n + 1 + m = (n + m) + 1 by omega]
    exact fun x => Pg.dep_bind hg (h x)
theorem Pg.ok {M : Mc σ} {ok : Nat → σ → Prop} (m : Mk M ok) : ∀ {p : Pg α} {n N : Nat} {s : Ms σ}, p.dep n → okS ok N s → okS ok (N + 4 * n) (p.run M s).2
  | .ret _, _, _, _, _, h => h.mono m (by omega)
  | .bit c b k, n + 1, N, s, hd, h => by
    have := Pg.ok m (hd (bitM M s c b).1) (bit_ok m c b h)
    rw [show N + 4 + 4 * n = N + 4 * (n + 1) by omega] at this
    exact this
  | .fla b k, n + 1, N, s, hd, h => by
    have := Pg.ok m (hd (flaM M s b).1) (fla_ok m b h)
    rw [show N + 4 + 4 * n = N + 4 * (n + 1) by omega] at this
    exact this
theorem Pg.same {M : Mc σ} {K : Mc τ} {R : Nat → σ → τ → Prop} (m : Mr M K R) : ∀ {p : Pg α} {n N : Nat} {s : Ms σ} {t : Ms τ}, p.dep n → rS R N s t → (p.run M s).1 = (p.run K t).1 ∧ rS R (N + 4 * n) (p.run M s).2 (p.run K t).2
  | .ret _, _, _, _, _, _, h => ⟨rfl, h.mono m (by omega)⟩
  | .bit c b k, n + 1, N, s, t, hd, h => by
    obtain ⟨e, h1⟩ := bit_r m c b h
    have := Pg.same m (hd (bitM M s c b).1) h1
    rw [show N + 4 + 4 * n = N + 4 * (n + 1) by omega] at this
    show ((k (bitM M s c b).1).run M (bitM M s c b).2).1 = ((k (bitM K t c b).1).run K (bitM K t c b).2).1 ∧ rS R _ ((k (bitM M s c b).1).run M (bitM M s c b).2).2 ((k (bitM K t c b).1).run K (bitM K t c b).2).2
    rw [← e]
    exact this
  | .fla b k, n + 1, N, s, t, hd, h => by
    obtain ⟨e, h1⟩ := fla_r m b h
    have := Pg.same m (hd (flaM M s b).1) h1
    rw [show N + 4 + 4 * n = N + 4 * (n + 1) by omega] at this
    show ((k (flaM M s b).1).run M (flaM M s b).2).1 = ((k (flaM K t b).1).run K (flaM K t b).2).1 ∧ rS R _ ((k (flaM M s b).1).run M (flaM M s b).2).2 ((k (flaM K t b).1).run K (flaM K t b).2).2
    rw [← e]
    exact this
/-- a writer -/
theorem Pg.told : ∀ {p : Pg α} {s : Ms Ec}, gS s → (p.run mE s).1 = p.hand ∧ gS (p.run mE s).2 ∧ ∀ {X n : Nat}, nS X n (p.run mE s).2 → nS X n s
  | .ret _, _, g => ⟨rfl, g, fun h => h⟩
  | .bit c b k, s, g => by
    obtain ⟨g1, e⟩ := bit_g g c b
    obtain ⟨h1, h2, h3⟩ := Pg.told (p := k (bitM mE s c b).1) g1
    refine ⟨h1.trans (by rw [e]; rfl), h2, fun h => bit_n g (h3 h)⟩
  | .fla b k, s, g => by
    obtain ⟨g1, e⟩ := fla_g g b
    obtain ⟨h1, h2, h3⟩ := Pg.told (p := k (flaM mE s b).1) g1
    refine ⟨h1.trans (by rw [e]; rfl), h2, fun h => fla_n g (h3 h)⟩
/-- the same calls, whatever bits they are handed -/
inductive Sk : Pg α → Pg α → Prop where
  | ret (a : α) : Sk (.ret a) (.ret a)
  | bit (c : Int) (b d : Bool) {k l : Bool → Pg α} : (∀ x, Sk (k x) (l x)) → Sk (.bit c b k) (.bit c d l)
  | fla (b d : Bool) {k l : Bool → Pg α} : (∀ x, Sk (k x) (l x)) → Sk (.fla b k) (.fla d l)
theorem Sk.refl : ∀ (p : Pg α), Sk p p
  | .ret a => .ret a
  | .bit c b k => .bit c b b (fun x => Sk.refl (k x))
  | .fla b k => .fla b b (fun x => Sk.refl (k x))
theorem Sk.bind {g h : α → Pg β} (hg : ∀ a, Sk (g a) (h a)) {p q : Pg α} (k : Sk p q) : Sk (p.bind g) (q.bind h) := by
  induction k with
  | ret a => exact hg a
  | bit c b d _ ih => exact .bit c b d ih
  | fla b d _ ih => exact .fla b d ih
theorem Sk.back {bs : List Nat} {n : Nat} (hb : ∀ x ∈ bs, x < 256) {p q : Pg α} (k : Sk p q) : ∀ {s : Ms Ec} {t : Ms Dc}, wrI bs s t → nS (pn bs n) n (p.run mE s).2 → (q.run (mD bs) t).1 = (p.run mE s).1 ∧ wrI bs (p.run mE s).2 (q.run (mD bs) t).2 := by
  induction k with
  | ret a => intro s t h _; exact ⟨rfl, h⟩
  | bit c b d _ ih =>
    intro s t h hn
    obtain ⟨g1, e⟩ := bit_g h.1 c b
    obtain ⟨a1, r1⟩ := bit_b hb d h ((Pg.told g1).2.2 hn)
    have := ih _ r1 hn
    show ((_ : Pg α).run (mD bs) (bitM (mD bs) t c d).2).1 = _ ∧ wrI bs _ ((_ : Pg α).run (mD bs) (bitM (mD bs) t c d).2).2
    rw [a1]
    exact this
  | fla b d _ ih =>
    intro s t h hn
    obtain ⟨g1, e⟩ := fla_g h.1 b
    obtain ⟨a1, r1⟩ := fla_b hb d h ((Pg.told g1).2.2 hn)
    have := ih _ r1 hn
    show ((_ : Pg α).run (mD bs) (flaM (mD bs) t d).2).1 = _ ∧ wrI bs _ ((_ : Pg α).run (mD bs) (flaM (mD bs) t d).2).2
    rw [a1]
    exact this
end
end Go.Proofs.YtdndambkaohgiaaGreatDoor
