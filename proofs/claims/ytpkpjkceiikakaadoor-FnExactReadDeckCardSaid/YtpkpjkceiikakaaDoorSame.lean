/- Contracts: are two decks the same; the program's (slices.Equal) and the model's. -/
import Derived.Test.YtpkpjkceiikakaaDoorCardEq
import Derived.Test.YtpkpjkceiikakaaDoorDeck3
namespace Go.Proofs.YtpkpjkceiikakaaDoor
open Go.ChangeShapes Go.WideShapes Go.ChangeAt Go.RowKit

def Cd.eqb (x y : Cd) : Bool := x.s == y.s && (x.a == y.a && x.b == y.b)
def sameTo (cs ds : List Cd) : Nat → Bool
  | 0 => true
  | k + 1 => sameTo cs ds k && (cdAt cs k).eqb (cdAt ds k)
def sameC (cs ds : List Cd) : Bool := decide (cs.length = ds.length) && sameTo cs ds cs.length
theorem sameC_len {cs ds : List Cd} (h : ¬ cs.length = ds.length) : sameC cs ds = false := by unfold sameC; simp [h]
theorem sameTo_no {cs ds : List Cd} {k : Nat} (h : (cdAt cs k).eqb (cdAt ds k) = false) : ∀ n, k < n → sameTo cs ds n = false
  | 0, hk => absurd hk (Nat.not_lt_zero _)
  | n + 1, hk => by
    unfold sameTo
    by_cases e : k = n
    · subst e; simp [h]
    · rw [sameTo_no h n (by omega)]; rfl
theorem sameC_no {cs ds : List Cd} {k : Nat} (hk : k < cs.length) (h : (cdAt cs k).eqb (cdAt ds k) = false) : sameC cs ds = false := by unfold sameC; rw [sameTo_no h _ hk]; simp
theorem sameC_yes {cs ds : List Cd} (hl : cs.length = ds.length) (h : sameTo cs ds cs.length = true) : sameC cs ds = true := by unfold sameC; rw [h, decide_eq_true hl]; rfl
theorem retB {x y : Bool} (h : y = x) : Ending.returned (.bool x) = Ending.returned (.bool y) := by rw [h]




end Go.Proofs.YtpkpjkceiikakaaDoor
