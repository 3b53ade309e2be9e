/- The bucket, on lists of sizes: plain arithmetic. -/
import Derived.Test.YtckhilnjkckabaaDoorCards
namespace Go.Proofs.YtckhilnjkckabaaDoor
set_option linter.unusedVariables false
set_option linter.unusedSimpArgs false

def pc (rate : Int) : Int → List Int → Int
  | f, [] => f
  | f, s :: l => pc rate (f + (rate - s)) l
def playOut (rate : Int) : Int → List Int → List Int
  | _, [] => []
  | f, s :: l => (f + (rate - s)) :: playOut rate (f + (rate - s)) l
def playErr (rate room : Int) : Int → List Int → Nat → Option (Nat × Int)
  | _, [], _ => none
  | f, s :: l, i => if f < s then some (i, 14) else if room < f + (rate - s) then some (i, 5) else playErr rate room (f + (rate - s)) l (i + 1)

def nf (rate room f s : Int) : Int := f + (rate - s) - max 0 (f + (rate - s) - room)
def fc (rate room : Int) : Int → List Int → Int
  | f, [] => f
  | f, s :: l => fc rate room (nf rate room f s) l
def fillOut (rate room : Int) : Int → List Int → List Int
  | _, [] => []
  | f, s :: l => max 0 (f + (rate - s) - room) :: fillOut rate room (nf rate room f s) l
def fillErr (rate room : Int) : Int → List Int → Nat → Option (Nat × Int)
  | _, [], _ => none
  | f, s :: l, i => if f < s then some (i, 14) else fillErr rate room (nf rate room f s) l (i + 1)

theorem pc_snoc (rate f : Int) (l : List Int) (s : Int) : pc rate f (l ++ [s]) = pc rate f l + (rate - s) := by
  induction l generalizing f with
  | nil => rfl
  | cons x l ih => exact ih _
theorem playOut_snoc (rate f : Int) (l : List Int) (s : Int) : playOut rate f (l ++ [s]) = playOut rate f l ++ [pc rate f l + (rate - s)] := by
  induction l generalizing f with
  | nil => rfl
  | cons x l ih => simp [playOut, pc, ih]
theorem playOut_length (rate f : Int) (l : List Int) : (playOut rate f l).length = l.length := by
  induction l generalizing f with
  | nil => rfl
  | cons x l ih => simp [playOut, ih]
theorem fc_snoc (rate room f : Int) (l : List Int) (s : Int) : fc rate room f (l ++ [s]) = nf rate room (fc rate room f l) s := by
  induction l generalizing f with
  | nil => rfl
  | cons x l ih => exact ih _
theorem fillOut_snoc (rate room f : Int) (l : List Int) (s : Int) : fillOut rate room f (l ++ [s]) = fillOut rate room f l ++ [max 0 (fc rate room f l + (rate - s) - room)] := by
  induction l generalizing f with
  | nil => rfl
  | cons x l ih => simp [fillOut, fc, ih]
theorem fillOut_length (rate room f : Int) (l : List Int) : (fillOut rate room f l).length = l.length := by
  induction l generalizing f with
  | nil => rfl
  | cons x l ih => simp [fillOut, ih]
/-- the content's bounds while nothing failed -/
theorem nf_bounds {rate room f s : Int} (h1 : 8 ≤ rate) (h2 : rate ≤ room) (hs : s ≤ f) (_h0 : 0 ≤ s) : rate ≤ nf rate room f s ∧ nf rate room f s ≤ room := by
  unfold nf
  omega
end Go.Proofs.YtckhilnjkckabaaDoor
