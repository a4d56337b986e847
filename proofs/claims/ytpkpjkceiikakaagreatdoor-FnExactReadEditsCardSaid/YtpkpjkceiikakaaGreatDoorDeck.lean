/- Contracts of the laws' own functions on slices of cards: measured, carried over, compared. -/
import Derived.Test.YtpkpjkceiikakaaGreatDoorCrds
import Derived.Test.YtpkpjkceiikakaaGreatDoorQuiet
namespace Go.Proofs.YtpkpjkceiikakaaGreatDoor
open Go.ChangeShapes Go.WideShapes Go.ChangeAt Go.RowKit

def szc (l : Int) (n : Nat) : Int := if l - (n : Int) < 0 then -1 else l - (n : Int)
theorem szc_no {l : Int} {n : Nat} (h : l - (n : Int) < 0) : szc l n = -1 := by unfold szc; rw [if_pos h]
theorem szc_yes {l : Int} {n : Nat} (h : ¬ l - (n : Int) < 0) : szc l n = l - (n : Int) := by unfold szc; rw [if_neg h]


/-- What a measuring leaves: no more than there was, and no more cards than it. -/
def SzR (n : Nat) (w : World) (e : Ending) (w' : World) : Prop := ∃ z : Int, e = .returned (.int .i64 z) ∧ -1 ≤ z ∧ z ≤ 1048576 ∧ (0 ≤ z → n ≤ 1048576) ∧ Below w.heap.size w w'

end Go.Proofs.YtpkpjkceiikakaaGreatDoor
