/- Contracts of the laws' own functions on slices of cards: measured, carried over, compared. -/
import Derived.Test.YtppjmngnjdeigaaDoorEnts
import Derived.Test.YtppjmngnjdeigaaDoorQuiet
namespace Go.Proofs.YtppjmngnjdeigaaDoor
open Go.ChangeShapes Go.WideShapes Go.ChangeAt Go.RowKit

def esz (l : Int) (n : Nat) : Int := if l - (n : Int) < 0 then -1 else l - (n : Int)
theorem esz_no {l : Int} {n : Nat} (h : l - (n : Int) < 0) : esz l n = -1 := by unfold esz; rw [if_pos h]
theorem esz_yes {l : Int} {n : Nat} (h : ¬ l - (n : Int) < 0) : esz l n = l - (n : Int) := by unfold esz; rw [if_neg h]


/-- What a measuring leaves: no more than there was, and no more cards than it. -/
def ESzR (n : Nat) (w : World) (e : Ending) (w' : World) : Prop := ∃ z : Int, e = .returned (.int .i64 z) ∧ -1 ≤ z ∧ z ≤ 1048576 ∧ (0 ≤ z → n ≤ 1048576) ∧ Below w.heap.size w w'

end Go.Proofs.YtppjmngnjdeigaaDoor
