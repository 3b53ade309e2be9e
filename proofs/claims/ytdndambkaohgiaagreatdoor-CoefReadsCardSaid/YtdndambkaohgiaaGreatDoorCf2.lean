/- coef.codeSize, codeLevel over a plain coder. -/
import Derived.Test.YtdndambkaohgiaaGreatDoorCf0
namespace Go.Proofs.YtdndambkaohgiaaGreatDoor
set_option linter.unusedVariables false
set_option linter.unusedSimpArgs false
open Go.RowKit Go.Extern.Stop Go.Stop Go.Extern

section
variable {σ : Type}
/-- the size of a level from n on: z is what is coded, f the bits with contexts that may still come -/
def csM (M : Mc σ) (C : Nat) (z : Int) : Nat → Nat → Ms σ → Nat × Ms σ
  | 0, _, s => (13 + (rstM M (z - 13) s).1, (rstM M (z - 13) s).2)
  | f + 1, n, s => if (bitM M s ((C + min n 7 : Nat) : Int) (decide ((n : Int) < z))).1 then csM M C z f (n + 1) (bitM M s ((C + min n 7 : Nat) : Int) (decide ((n : Int) < z))).2 else (n, (bitM M s ((C + min n 7 : Nat) : Int) (decide ((n : Int) < z))).2)
theorem cs_yes {M : Mc σ} {C : Nat} {z : Int} {f n : Nat} {s s1 : Ms σ} (h : bitM M s ((C + min n 7 : Nat) : Int) (decide ((n : Int) < z)) = (true, s1)) : csM M C z (f + 1) n s = csM M C z f (n + 1) s1 := by
  show (if _ = true then _ else _) = _
  rw [h]
  rfl
theorem cs_no {M : Mc σ} {C : Nat} {z : Int} {f n : Nat} {s s1 : Ms σ} (h : bitM M s ((C + min n 7 : Nat) : Int) (decide ((n : Int) < z)) = (false, s1)) : csM M C z (f + 1) n s = (n, s1) := by
  show (if _ = true then _ else _) = _
  rw [h]
  rfl
theorem rst_lt {M : Mc σ} {u : Int} (s : Ms σ) : 1 ≤ (rstM M u s).1 ∧ (rstM M u s).1 ≤ 16383 := by
  have h := rz_le (M := M) (u := u) 13 0 s
  have k := rb_lt (M := M) (u := u) (rzM M u 13 0 s).1 1 (rzM M u 13 0 s).2
  have p : 2 ^ (rzM M u 13 0 s).1 ≤ 2 ^ 13 := Nat.pow_le_pow_right (by decide) (by omega)
  have p0 : 0 < 2 ^ (rzM M u 13 0 s).1 := Nat.two_pow_pos _
  unfold rstM
  omega
theorem cs_le {M : Mc σ} {C : Nat} {z : Int} : ∀ (f n : Nat) (s : Ms σ), n + f ≤ 14 → (csM M C z f n s).1 ≤ 16396
  | 0, n, s, _ => by
    have := (rst_lt (M := M) (u := z - 13) s).2
    show 13 + _ ≤ _
    omega
  | f + 1, n, s, h => by
    obtain ⟨⟨b, t⟩, e⟩ : ∃ r, bitM M s ((C + min n 7 : Nat) : Int) (decide ((n : Int) < z)) = r := ⟨_, rfl⟩
    cases b
    · rw [cs_no e]; show n ≤ _; omega
    · rw [cs_yes e]; exact cs_le f (n + 1) t (by omega)
def lvM (M : Mc σ) (C : Nat) (v : Int) (s : Ms σ) : Int × Ms σ :=
  (if (flaM M s (decide (v < 0))).1 then -(((csM M C ((v.natAbs : Int) - 1) 14 0 (flaM M s (decide (v < 0))).2).1 : Int) + 1) else ((csM M C ((v.natAbs : Int) - 1) 14 0 (flaM M s (decide (v < 0))).2).1 : Int) + 1,
    (csM M C ((v.natAbs : Int) - 1) 14 0 (flaM M s (decide (v < 0))).2).2)
variable {M : Mc σ} {ok : Nat → σ → Prop}
theorem rz_ok (m : Mk M ok) {u : Int} : ∀ (f z : Nat) {N : Nat} {s : Ms σ}, okS ok N s → okS ok (N + 4 * f) (rzM M u f z s).2
  | 0, _, _, _, h => h
  | f + 1, z, N, s, h => by
    have h1 := fla_ok m (geAt u z) h
    unfold rzM
    split
    · have := rz_ok m (u := u) f (z + 1) h1
      rw [show N + 4 + 4 * f = N + 4 * (f + 1) by omega] at this
      exact this
    · exact h1.mono m (by omega)
theorem rb_ok (m : Mk M ok) {u : Int} : ∀ (k c : Nat) {N : Nat} {s : Ms σ}, okS ok N s → okS ok (N + 4 * k) (rbM M u k c s).2
  | 0, _, _, _, h => h
  | k + 1, c, N, s, h => by
    have h1 := fla_ok m (bitAt u k) h
    have := rb_ok m (u := u) k (2 * c + if (flaM M s (bitAt u k)).1 then 1 else 0) h1
    rw [show N + 4 + 4 * k = N + 4 * (k + 1) by omega] at this
    exact this
theorem rst_ok (m : Mk M ok) {u : Int} {N : Nat} {s : Ms σ} (h : okS ok N s) : okS ok (N + 104) (rstM M u s).2 := by
  have h1 := rz_ok m (u := u) 13 0 h
  have h2 := rb_ok m (u := u) (rzM M u 13 0 s).1 1 h1
  have := (rz_le (M := M) (u := u) 13 0 s).2
  exact h2.mono m (by omega)
theorem cs_ok (m : Mk M ok) {C : Nat} {z : Int} : ∀ (f n : Nat) {N : Nat} {s : Ms σ}, okS ok N s → okS ok (N + 104 + 4 * f) (csM M C z f n s).2
  | 0, _, _, _, h => rst_ok m h
  | f + 1, n, N, s, h => by
    have h1 := bit_ok m ((C + min n 7 : Nat) : Int) (decide ((n : Int) < z)) h
    unfold csM
    split
    · have := cs_ok m (C := C) (z := z) f (n + 1) h1
      rw [show N + 4 + 104 + 4 * f = N + 104 + 4 * (f + 1) by omega] at this
      exact this
    · exact h1.mono m (by omega)
theorem lv_ok (m : Mk M ok) {C : Nat} {v : Int} {N : Nat} {s : Ms σ} (h : okS ok N s) : okS ok (N + 164) (lvM M C v s).2 :=
  cs_ok m (C := C) (z := (v.natAbs : Int) - 1) 14 0 (fla_ok m (decide (v < 0)) h)
end
end Go.Proofs.YtdndambkaohgiaaGreatDoor
