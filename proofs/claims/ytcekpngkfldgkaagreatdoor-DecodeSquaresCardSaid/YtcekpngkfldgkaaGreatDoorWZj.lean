/- Contracts of this seat: Md5, Md6, Mdb. -/
import Derived.Test.YtcekpngkfldgkaaGreatDoorWZi
import Derived.Test.YtcekpngkfldgkaaGreatDoorWZb
/- kinlaw13.asks with a writer and with a reader: contracts over this seat's translation. -/
namespace Go.Proofs.YtcekpngkfldgkaaGreatDoor
set_option linter.unusedVariables false
set_option linter.unusedSimpArgs false
open Go.RowKit Go.Extern.Stop Go.Stop Go.Extern

end Go.Proofs.YtcekpngkfldgkaaGreatDoor

/- Objects beside each other; a list of numbers of the call's own; kinlaw13.first. -/
namespace Go.Proofs.YtcekpngkfldgkaaGreatDoor
set_option linter.unusedVariables false
set_option linter.unusedSimpArgs false
open Go.RowKit Go.Extern.Stop Go.Stop Go.Extern

theorem RdF.obj (a : Nat) (bs : List Nat) : Obj (RdF a bs) := ⟨fun h => h.lt, fun h => h.same⟩
/-- numbers in a row of the call's own -/
def TlF (w : World) (F : Nat → Prop) (p : Value × List Int) : Prop := w.ownsRow 0 3 1 p.1 p.2.length (p.2.map (Value.int .i64)) ∧ ∀ k, F k ↔ p.1.ownBlock = some k
theorem TlF.obj : Obj TlF := ⟨fun h k hk => (h.1.lt k ((h.2 k).1 hk)).2, fun h k => ⟨own_block h.1 (fun g hg => k g ((h.2 g).2 hg)), h.2⟩⟩
theorem TlF.nil (w : World) : TlF w (fun _ => False) (.slice none 0 0, []) := ⟨World.ownsRow_nil _ _ _ _, fun k => ⟨False.elim, fun h => by simp [Value.ownBlock] at h⟩⟩
theorem TlF.form {w : World} {F : Nat → Prop} {v : Value} {L : List Int} (h : TlF w F (v, L)) : ∃ a c, v = .slice a L.length c := by
  rcases h.1.2 with ⟨e, h0⟩ | ⟨g, cap, cur, e, -⟩
  · have e : v = .slice none 0 0 := e
    have h0 : L.length = 0 := h0
    exact ⟨none, 0, by rw [e, h0]⟩
  · exact ⟨_, _, e⟩
theorem TlF.cell {w : World} {F : Nat → Prop} {v : Value} {L : List Int} {q : Nat} {x : Int} (h : TlF w F (v, L)) (hx : L[q]? = some x) : ∃ g cap, v = .slice (some ⟨g, 0, none⟩) L.length cap ∧ w.cell? ⟨g, q, none⟩ = some (.int .i64 x) := by
  have hq : q < L.length := (List.getElem?_eq_some_iff.1 hx).1
  rcases id h.1.2 with ⟨-, h0⟩ | ⟨g, cap, cur, e, -⟩
  · have h0 : L.length = 0 := h0
    omega
  · have e : v = .slice (some ⟨g, 0, none⟩) L.length cap := e
    subst e
    have hc := h.1.cells (g := g) rfl q (.int .i64 x) (by simp [hx])
    have e2 : (⟨g, 0, none⟩ : Addr).add q = ⟨g, q, none⟩ := by unfold Addr.add; split <;> simp_all
    rw [e2] at hc
    exact ⟨g, cap, rfl, hc⟩
/-- what the chapter's examples fix -/
def f13 : Ms Ec := (bitM mE ⟨ch0, newE⟩ 0 false).2
def g13 : Ms Ec := (bitM mE f13 0 true).2
def h13 : Ms Ec := (kindM mE g13 7).2
theorem okd13 {bs : List Nat} (hb : ∀ x ∈ bs, x < 256) : okS okDm 4 ⟨ch0, newD bs⟩ := ⟨ch0_ok, (newD_ok hb).1, by rw [(newD_ok hb).2.1]; decide⟩
end Go.Proofs.YtcekpngkfldgkaaGreatDoor

/- What a model's writer was told a reader tells: plain. -/
namespace Go.Proofs.YtcekpngkfldgkaaGreatDoor
set_option linter.unusedVariables false
set_option linter.unusedSimpArgs false
open Go.RowKit Go.Extern.Stop Go.Stop Go.Extern

/-- a writer's state that may be; the number lies within it -/
def gS (s : Ms Ec) : Prop := chI s.ch ∧ hI s.co ∧ 16777216 ≤ s.co.wid
def nS (X n : Nat) (s : Ms Ec) : Prop := inE X n s.co
/-- the width of a bit's lower part -/
theorem bit_w {s : Ms Ec} (g : gS s) (c : Int) (b : Bool) : ∃ w, (1 ≤ w ∧ w < s.co.wid) ∧ (bitM mE s c b).2.co = parE s.co w b ∧ (bitM mE s c b).1 = b ∧
    ∀ (bs : List Nat) (t : Ms Dc) (d : Bool), t.ch = s.ch → t.co.wid = s.co.wid → (bitM (mD bs) t c d).2.co = parD bs t.co w ∧ (bitM (mD bs) t c d).1 = upD t.co w ∧ (upD t.co w = b → (bitM (mD bs) t c d).2.ch = (bitM mE s c b).2.ch) := by
  obtain ⟨g1, g2, g3⟩ := g
  unfold bitM
  cases hc : ctxM c
  · refine ⟨s.co.wid / 2, ⟨by omega, by omega⟩, rfl, rfl, fun bs t d h1 h2 => ?_⟩
    refine ⟨?_, ?_, fun _ => h1⟩
    · show parD bs t.co (t.co.wid / 2) = _
      rw [h2]
    · show upD t.co (t.co.wid / 2) = _
      rw [h2]
  · obtain ⟨p, hp⟩ : ∃ p, s.ch c.toNat = p := ⟨_, rfl⟩
    obtain ⟨p1, p2⟩ := g1 c.toNat
    rw [hp] at p1 p2
    have hch := chance_ok p1 p2
    have hpt : ((p : Int)).toNat = p := Int.toNat_natCast p
    have he : ∀ u : Ec, codE u (p : Int) b = parE u (u.wid / 2048 * p) b := fun u => by unfold codE; rw [hch, hpt]; rfl
    have hd : ∀ (bs : List Nat) (u : Dc), codD bs u (p : Int) = parD bs u (u.wid / 2048 * p) := fun bs u => by unfold codD; rw [hch, hpt]; rfl
    have hu : ∀ u : Dc, codU u (p : Int) = upD u (u.wid / 2048 * p) := fun u => by unfold codU; rw [hch, hpt]; rfl
    refine ⟨s.co.wid / 2048 * p, part_of g3 (by omega) (by omega), ?_, rfl, fun bs t d h1 h2 => ?_⟩
    · show codE s.co (s.ch c.toNat : Int) b = _
      rw [hp, he]
    · refine ⟨?_, ?_, fun hv => ?_⟩
      · show codD bs t.co (t.ch c.toNat : Int) = _
        rw [h1, hp, hd, h2]
      · show codU t.co (t.ch c.toNat : Int) = _
        rw [h1, hp, hu, h2]
      · show setM t.ch c.toNat (lrnM (t.ch c.toNat) (codU t.co (t.ch c.toNat : Int))) = setM s.ch c.toNat (lrnM (s.ch c.toNat) b)
        rw [h1, hp, hu, h2, hv]
theorem fla_w {s : Ms Ec} (g : gS s) (b : Bool) : ∃ w, (1 ≤ w ∧ w < s.co.wid) ∧ (flaM mE s b).2.co = parE s.co w b ∧ (flaM mE s b).1 = b ∧
    ∀ (bs : List Nat) (t : Ms Dc) (d : Bool), t.ch = s.ch → t.co.wid = s.co.wid → (flaM (mD bs) t d).2.co = parD bs t.co w ∧ (flaM (mD bs) t d).1 = upD t.co w ∧ (upD t.co w = b → (flaM (mD bs) t d).2.ch = (flaM mE s b).2.ch) := by
  obtain ⟨g1, g2, g3⟩ := g
  refine ⟨s.co.wid / 2, ⟨by omega, by omega⟩, rfl, rfl, fun bs t d h1 h2 => ?_⟩
  refine ⟨?_, ?_, fun _ => h1⟩
  · show parD bs t.co (t.co.wid / 2) = _
    rw [h2]
  · show upD t.co (t.co.wid / 2) = _
    rw [h2]
theorem bit_g {s : Ms Ec} (g : gS s) (c : Int) (b : Bool) : gS (bitM mE s c b).2 ∧ (bitM mE s c b).1 = b := by
  obtain ⟨w, ⟨w1, w2⟩, h1, h2, -⟩ := bit_w g c b
  refine ⟨⟨?_, ?_, ?_⟩, h2⟩
  · unfold bitM
    split
    · exact g.1.set _ _
    · exact g.1
  · rw [h1]; exact hI_par g.2.1 w2
  · rw [h1]
    refine nrm_wide 3 ?_
    rw [midE_wid]
    show 16777216 ≤ _ * 16777216
    split <;> omega
theorem fla_g {s : Ms Ec} (g : gS s) (b : Bool) : gS (flaM mE s b).2 ∧ (flaM mE s b).1 = b := by
  obtain ⟨w, ⟨w1, w2⟩, h1, h2, -⟩ := fla_w g b
  refine ⟨⟨g.1, ?_, ?_⟩, h2⟩
  · rw [h1]; exact hI_par g.2.1 w2
  · rw [h1]
    refine nrm_wide 3 ?_
    rw [midE_wid]
    show 16777216 ≤ _ * 16777216
    split <;> omega
section
variable {X n : Nat}
theorem bit_n {s : Ms Ec} (g : gS s) {c : Int} {b : Bool} (h : nS X n (bitM mE s c b).2) : nS X n s := by
  obtain ⟨w, ⟨w1, w2⟩, h1, h2, -⟩ := bit_w g c b
  unfold nS at h
  rw [h1] at h
  exact (in_par g.2.1 w2 h).2
theorem fla_n {s : Ms Ec} (g : gS s) {b : Bool} (h : nS X n (flaM mE s b).2) : nS X n s := by
  obtain ⟨w, ⟨w1, w2⟩, h1, h2, -⟩ := fla_w g b
  unfold nS at h
  rw [h1] at h
  exact (in_par g.2.1 w2 h).2
end
section
variable {bs : List Nat} {n : Nat} (hb : ∀ x ∈ bs, x < 256)
include hb
end
end Go.Proofs.YtcekpngkfldgkaaGreatDoor

